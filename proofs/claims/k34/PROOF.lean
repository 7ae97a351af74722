import PyProof.Rows.All
import Wide.All
import OpenK.AllK
import Wide.FinOn
import KE.KStateDown
import HandS.ForMost
import HandS.Exc
import HandS.Defaults
import HandS.MakeKw
import HandS.IsInst
import HandS.Wide
import HandS.WideBits
import HandS.Evl
import HandS.WordsExc
import HandS.Head0
import HandS.Head1
import HandS.Head2
import HandS.HeadEnd
import HandS.HeadHook1
import HandS.HeadHook2
import KE.KExcIs
import HandS.ExcInit
import HandS.Iter
import PyProof.EnumMake
import PyProof.Draws
import PyProof.StrOps2
import HandS.Zip
import HandS.SetFor
import HandS.WideMore
import HandS.DictComp
import PyProof.Rows.CountFlat
import HandS.EndBits
import KE.KFmtOwn
import PyProof.InstNe
import HandS.OwnEq
import HandS.More
import HandS.SlotsOwn
import HandS.FStr
import HandS.Style
import PyProof.FString3
import PyProof.Rows.StrIntSpec
import HandS.Text
import HandS.Strs
import HandS.Sort
import HandS.StrMore
import HandS.RaiseMore
import HandS.TupAny
import HandS.TupMul
import HandS.Iter
import HandS.TryOnly
import PySem.Challenge.RW_rosenames_k34_claims_of_away_judged
set_option Elab.async false
set_option linter.all false
set_option maxRecDepth 100000
set_option maxHeartbeats 0
/-! The head's Hook with one Bool more; a def by its name; what an own class needs for isinstance. -/
namespace L2
open PySem PySem.Spec PyProof.Rows
/-- what the module's names reach, and the cell of the statics -/
def asN (g : Addr → Option Obj) (n : Nat) : List Addr := cStatics :: He.asD g n
def hookM (n : Nat) (fa : List He.Fa) (fn : List He.DefD) (ex : PySem.W.Frag → Bool) : PySem.W.Hook where
  α := He.AlD × Bool
  obs := fun s => (He.obsD fa fn (He.frG s.heap.get? (asN s.heap.get? n)), ex (He.frG s.heap.get? (asN s.heap.get? n)))
  val := fun _ => (He.valD fn, true)
  says := fun _ h => ∃ K : PySem.W.Frag, K.In h ∧ He.SaysD fa fn K ∧ ex K = true
  of := fun _ _ e => ⟨_, He.frG_in, congrArg (fun z : He.AlD × Bool => z.1) e, congrArg (fun z : He.AlD × Bool => z.2) e⟩
  keeps := fun _ _ _ ⟨K, hK, c⟩ k => ⟨K, PySem.W.Frag.In.keeps hK k, c⟩
/-- isinstance of an own class's instances -/
structure IsC (K : PySem.W.Frag) (C : Addr) : Prop where
  ha : PySem.W.findIn K (.ref C) "__class__" = some (some (.builtin "object.__class__"))
  hn : PySem.W.specialIn K (.builtin "object.__class__") "__get__" = some (some (.builtin "getset_descriptor.__get__"))
  htk : PySem.W.takesIn K (.builtin "object.__class__") = some true
  hm : PySem.W.mroIn K C (.type "object") = some true
def tyB (K : PySem.W.Frag) (x : Str) : Bool :=
  He.eqO (PySem.W.findIn K (.ref (He.ga K x)) "__class__") (some (some (.builtin "object.__class__"))) &&
  (He.eqO (PySem.W.specialIn K (.builtin "object.__class__") "__get__") (some (some (.builtin "getset_descriptor.__get__"))) &&
  (decide (PySem.W.takesIn K (.builtin "object.__class__") = some true) && decide (PySem.W.mroIn K (He.ga K x) (.type "object") = some true)))
theorem tyB_ok {K : PySem.W.Frag} {x : Str} (h : tyB K x = true) : IsC K (He.ga K x) := by
  obtain ⟨h1, h⟩ := He.ba h
  obtain ⟨h2, h⟩ := He.ba h
  obtain ⟨h3, h4⟩ := He.ba h
  exact ⟨He.eqO_ok h1, He.eqO_ok h2, of_decide_eq_true h3, of_decide_eq_true h4⟩
/-- a def of the module by its name: where it stands, what it promises, how it binds -/
structure Dn (P : Program) (w : World) (K : PySem.W.Frag) (mg : Str → Option Value) (base : Heap) (k : Nat) (x : Str) (ps : List Str) (sp : Sp) : Prop where
  ex : ∃ (f : Addr) (fd : FuncData), FnOk P w K mg base CX0 k f fd ps sp ∧ mg x = some (.ref f) ∧ PySem.W.keepIn K (.ref f) = true ∧ Binds K fd ps []
section
variable {X : Cx} {k : Nat} {x : Str} {ps : List Str} {sp : Sp} {e : Expr} {es : List Expr} {t : TA} {p pos : Pos}
theorem pe_cd (D : Dn X.prog X.w X.K X.mg X.base k x ps sp) (hr : Room k X.A) (hg : Gl X x) (ha : PA X (e :: es) t) (hdb : (x == ("__debug__" : Str)) = false := by decide)
    (he : starEach (e :: es) X.env = (false, eval e X.env) :: starEach es X.env := by rfl) (hpl : (backTo pos (starEach es X.env)).any (·.1) = false := by rfl) :
    PE X (.Call (.Name x p) (e :: es) [] pos) (tCall sp [] E0 t) := by
  obtain ⟨f, fd, F, m, kp, b⟩ := D.ex
  exact pe_call F hr hg m kp b .nil pass0 ha hdb he hpl
theorem pe_cd0 (D : Dn X.prog X.w X.K X.mg X.base k x ps sp) (hr : Room k X.A) (hg : Gl X x) (hdb : (x == ("__debug__" : Str)) = false := by decide) :
    PE X (.Call (.Name x p) [] [] pos) (tCall sp [] E0 tNil) := by
  obtain ⟨f, fd, F, m, kp, b⟩ := D.ex
  exact pe_call0 F hr hg m kp b .nil pass0 hdb
end
end L2
/-! More of what evaluates to what (heaps that only grow), and heaps that change at one place. -/
namespace L2
open PySem PySem.Spec PyProof.Rows Evl
/-- all but what stands at p is as it was -/
def But (p : Addr) (H H' : Hp) : Prop := ∀ b o, b ≠ p → H b = some o → H' b = some o
theorem But.refl {p : Addr} (H : Hp) : But p H H := fun _ _ _ h => h
theorem But.trans {p : Addr} {H H1 H2 : Hp} (a : But p H H1) (b : But p H1 H2) : But p H H2 := fun c o n h => b c o n (a c o n h)
theorem But.ex {p : Addr} {H H' : Hp} (e : Ex H H') : But p H H' := fun b o _ h => e b o h
theorem But.upd {p : Addr} {H : Hp} {o : HO} : But p H (upd H p o) := fun b u n h => by
  rw [upd_ne n]
  exact h
/-- what p is not known to H: then it is an extension -/
theorem But.new {p : Addr} {H H' : Hp} (e : But p H H') (h : H p = none) : Ex H H' := fun b o q => e b o (ne_of_none q h) q
section
variable {K : PySem.W.Frag} {σ : L2.St} {H H' : Hp} {ta tb te : TE} {x y z v : V}
theorem ev_fld {a C dx : Addr} {fs : List (Str × V)} {f : Str} (h : Ev ta σ H (.ref a)) (ho : H a = some (.ins C dx fs)) (hc : Cls K C) (hn : NoAttr K C f) (hl : fs.lookup f = some v) : Ev (tFld K ta f) σ H v :=
  fun H1 e Q q => h H1 e _ fun H2 e2 => ⟨a, C, dx, fs, v, rfl, (e.trans e2) _ _ ho, hc, hn, hl, q H2 e2⟩
theorem rc_isi {x c : V} {t u : Value} {b : Bool} (hc : ClsV c u) (hx : ∀ H1, Ex H H1 → TyX K H1 x t) (hk : PySem.W.kitOne K t u = some b) : RC (rIsi K) [x, c] H (.bl b) :=
  fun H1 e Q q => ⟨x, c, t, u, b, rfl, hc, hx H1 e, hk, q H1 (Ex.refl _)⟩
theorem rc_isiI {i : Int} : RC (rIsi K) [.int i, .ty "int"] H (.bl true) := rc_isi (.ty "int") (fun _ _ => .base (.int i)) (kit_ty (by decide +kernel))
theorem rc_isiB {i : Int} : RC (rIsi K) [.int i, .ty "bool"] H (.bl false) := rc_isi (.ty "bool") (fun _ _ => .base (.int i)) (kit_ty (by decide +kernel))
theorem kit_self {t : Value} : PySem.W.kitOne K t t = some true := by
  unfold PySem.W.kitOne
  rw [if_pos (beq_self_eq_true t)]
theorem rc_isiC {a C dx : Addr} {fs : List (Str × V)} (ho : H a = some (.ins C dx fs)) (hc : Cls K C) (hi : IsC K C) : RC (rIsi K) [.ref a, .ref C] H (.bl true) :=
  rc_isi (.own C) (fun _ e => .base (.ins (e _ _ ho) hc hi.ha hi.hn hi.htk hi.hm)) kit_self
def rAbs : List V → Hp → VK → Prop := fun xs H Q => ∃ i, xs = [.int i] ∧ Q (.int (if i < 0 then -i else i)) H
theorem rc_abs {i : Int} : RC (fun xs H Q => ∃ i, xs = [.int i] ∧ Q (.int (if i < 0 then -i else i)) H) [.int i] H (.int (i.natAbs : Int)) := fun H1 _ Q q => ⟨i, rfl, by
  have e : (if i < 0 then -i else i) = (i.natAbs : Int) := by
    by_cases h : i < 0
    · rw [if_pos h]
      omega
    · rw [if_neg h]
      omega
  rw [e]
  exact q H1 (Ex.refl _)⟩
/-- tuples' items by a written place -/
theorem ev_ixT {p : Addr} {xs : List V} {j : Nat} (h : Ev ta σ H (.ref p)) (hs : H p = some (.tup xs)) (hj : xs[j]? = some v) : Ev (tOp (rIxT K) ta (tC (.int (j : Int)))) σ H v :=
  ev_op h ev_c (rv_ixT (st_of hs) (atI_nat hj))
theorem ev_mulW {i j : Int} {n m : Nat} (ha : Ev ta σ H (.int i)) (hb : Ev tb σ H (.int j)) (hi : i.natAbs < 2 ^ n) (hj : j.natAbs < 2 ^ m) (h0 : 0 < n := by decide) (h1 : 0 < m := by decide) (h : n + m ≤ 1000000 := by decide) :
    Ev (tOp (rI CMulW fun i j => .int (i * j)) ta tb) σ H (.int (i * j)) := ev_op ha hb (rv_I (wide_mul hi hj h0 h1 h))
theorem ev_mul {i j : Int} (ha : Ev ta σ H (.int i)) (hb : Ev tb σ H (.int j)) (h : CMul i j) : Ev (tOp (rI CMul fun i j => .int (i * j)) ta tb) σ H (.int (i * j)) := ev_op ha hb (rv_I h)
theorem ev_add {i j : Int} (ha : Ev ta σ H (.int i)) (hb : Ev tb σ H (.int j)) : Ev (tOp (rI0 fun i j => .int (i + j)) ta tb) σ H (.int (i + j)) := ev_op ha hb rv_I0
theorem ev_sub {i j : Int} (ha : Ev ta σ H (.int i)) (hb : Ev tb σ H (.int j)) : Ev (tOp (rI0 fun i j => .int (i - j)) ta tb) σ H (.int (i - j)) := ev_op ha hb rv_I0
theorem ev_mod {i j : Int} (ha : Ev ta σ H (.int i)) (hb : Ev tb σ H (.int j)) (h : 0 < j) : Ev (tOp (rI (fun _ j => 0 < j) fun i j => .int (i % j)) ta tb) σ H (.int (i % j)) := ev_op ha hb (rv_I h)
theorem ev_fdivW {i j : Int} {n : Nat} (ha : Ev ta σ H (.int i)) (hb : Ev tb σ H (.int j)) (h : 0 < j) (hj : j.natAbs < 2 ^ n) (h0 : 0 < n := by decide) (h1 : n ≤ 9000 := by decide) : Ev (tOp (rI CDivW fun i j => .int (i / j)) ta tb) σ H (.int (i / j)) :=
  ev_op ha hb (rv_I (wide_div h hj h0 h1))
theorem ev_lt {i j : Int} (ha : Ev ta σ H (.int i)) (hb : Ev tb σ H (.int j)) : Ev (tOp (rI0 fun i j => .bl (decide (i < j))) ta tb) σ H (.bl (decide (i < j))) := ev_op ha hb rv_I0
theorem ev_gt {i j : Int} (ha : Ev ta σ H (.int i)) (hb : Ev tb σ H (.int j)) : Ev (tOp (rI0 fun i j => .bl (decide (j < i))) ta tb) σ H (.bl (decide (j < i))) := ev_op ha hb rv_I0
theorem ev_ge {i j : Int} (ha : Ev ta σ H (.int i)) (hb : Ev tb σ H (.int j)) : Ev (tOp (rI0 fun i j => .bl (decide (j ≤ i))) ta tb) σ H (.bl (decide (j ≤ i))) := ev_op ha hb rv_I0
theorem ev_eqI {i j : Int} (ha : Ev ta σ H (.int i)) (hb : Ev tb σ H (.int j)) : Ev (tOp rEq ta tb) σ H (.bl (decide (i = j))) := by
  have h := ev_op ha hb (rv_eq (x := .int i) (y := .int j) rfl)
  have e : decide (V.int i = V.int j) = decide (i = j) := by
    rw [Bool.eq_iff_iff]
    simp
  rw [e] at h
  exact h
theorem ev_neI {i j : Int} (ha : Ev ta σ H (.int i)) (hb : Ev tb σ H (.int j)) : Ev (tOp rNe ta tb) σ H (.bl (!decide (i = j))) := by
  have h := ev_op ha hb (rv_ne (x := .int i) (y := .int j) rfl)
  have e : decide (V.int i = V.int j) = decide (i = j) := by
    rw [Bool.eq_iff_iff]
    simp
  rw [e] at h
  exact h
theorem pow_big {n : Nat} {i : Int} {m : Nat} (h : i.natAbs < 2 ^ n) (hm : n ≤ m) : i.natAbs < 2 ^ m := Nat.lt_of_lt_of_le h (Nat.pow_le_pow_right (by decide) hm)
theorem ev_neg {i : Int} (ha : Ev ta σ H (.int i)) : Ev (tUn (rU fun i => .int (-i)) ta) σ H (.int (-i)) := ev_un ha ru_neg
end
end L2
/-! Readings opened one step. -/
namespace L2
open PySem PySem.Spec PyProof.Rows Evl
section
variable {σ : L2.St} {H : Hp} {D : Ends} {te ta tb : TE} {tA : TA} {t u : TS} {tt tu : TT} {Q : VK} {QT : Bool → Hp → Prop} {QA : List V → Hp → Prop} {vs xs dvs : List V} {v : V} {b : Bool}
theorem x_ret (h : te σ H D.rt) : tRet te D σ H := h
theorem x_seq (h : t { D with nx := u D } σ H) : tSeq t u D σ H := h
theorem x_asg {g : TG} (h : te σ H fun x H1 => g x σ H1 D.nx) : tAsg te g D σ H := h
theorem x_set {i : Nat} (h : te σ H fun x H1 => D.nx (σ.set i (some x)) H1) : tAsg te (gName i) D σ H := h
theorem x_drop (h : te σ H fun _ H1 => D.nx σ H1) : tDrop te D σ H := h
theorem x_par {i j : Nat} (h : tA σ H fun vs H1 => ∃ v w, vs = [v, w] ∧ D.nx ((σ.set i (some v)).set j (some w)) H1) : tPar i j tA D σ H := h
theorem x_op {r : R2} (h : ta σ H fun x H1 => tb σ H1 fun y H2 => r x y H2 Q) : tOp r ta tb σ H Q := h
theorem x_cb {r : List V → Hp → VK → Prop} (h : tA σ H fun vs H1 => r vs H1 Q) : tCB r tA σ H Q := h
theorem x_call {sp : Sp} {E : XK} (h : tA σ H fun vs H1 => sp (vs ++ dvs) H1 Q E) : tCall sp dvs E tA σ H Q := h
theorem x_cons {tr : TA} (h : ta σ H fun x H1 => tr σ H1 fun xs H2 => QA (x :: xs) H2) : tCons ta tr σ H QA := h
theorem x_nil (h : QA [] H) : tNil σ H QA := h
theorem x_if (h : tt σ H fun b H1 => if b = true then t D σ H1 else u D σ H1) : tIfS tt t u D σ H := h
theorem x_B (h : te σ H fun x H1 => ∃ c, x = .bl c ∧ QT c H1) : tB te σ H QT := h
theorem x_test (h : te σ H fun x H1 => ∃ c, x = .bl c ∧ QT c H1) : tTest te σ H QT := h
theorem x_not (h : tt σ H fun c H1 => QT (!c) H1) : tNot tt σ H QT := h
theorem x_or (h : tt σ H fun c H1 => if c = true then QT true H1 else tu σ H1 QT) : tOr tt tu σ H QT := h
theorem x_and (h : tt σ H fun c H1 => if c = true then tu σ H1 QT else QT false H1) : tAnd tt tu σ H QT := h
theorem x_meth {C : Addr} {m : Str} {sp : Sp} {E : XK} (h : ta σ H fun x H1 => ∃ a dx fs, x = .ref a ∧ H1 a = some (.ins C dx fs) ∧ fs.lookup m = none ∧ tA σ H1 fun vs H2 => sp (x :: (vs ++ dvs)) H2 Q E) : tMeth C m sp dvs E ta tA σ H Q := h
theorem x_lst (h : tA σ H fun xs H1 => xs.length ≤ sizeLine ∧ ∀ p, H1 p = none → Q (.ref p) (upd H1 p (.lst xs))) : tLst tA σ H Q := h
theorem x_tup (h : tA σ H fun xs H1 => xs.length ≤ sizeLine ∧ ∀ p, H1 p = none → Q (.ref p) (upd H1 p (.tup xs))) : tTup tA σ H Q := h
theorem x_c (h : Q v H) : tC v σ H Q := h
theorem x_var {i : Nat} (e : σ[i]? = some (some v)) (h : Q v H) : tVar i σ H Q := ⟨v, e, h⟩
theorem x_while {W : Nat → St → Hp → Prop} (m : Nat) (w0 : W m σ H) (h : ∀ m σ H, W m σ H → tt σ H fun b H1 => if b = true then ∃ N : St → Hp → Prop, (∀ σ' H', N σ' H' → ∃ m', m' < m ∧ W m' σ' H') ∧ t { D with nx := N, ct := N, bk := D.nx } σ H1 else D.nx σ H1) : tWhile tt t D σ H := ⟨W, ⟨m, w0⟩, h⟩
theorem Evl.Ev.go (h : Ev te σ H v) (k : ∀ H1, Ex H H1 → Q v H1) : te σ H Q := h H (Ex.refl _) _ k
theorem Evl.EvT.go (h : EvT tt σ H b) (k : ∀ H1, Ex H H1 → QT b H1) : tt σ H QT := h H (Ex.refl _) _ k
theorem Evl.EvA.go (h : EvA tA σ H vs) (k : ∀ H1, Ex H H1 → QA vs H1) : tA σ H QA := h H (Ex.refl _) _ k
theorem Evl.EvU.go (h : EvU te σ H xs) (k : ∀ p H1, H p = none → Ex H H1 → H1 p = some (.tup xs) → Q (.ref p) H1) : te σ H Q := h H (Ex.refl _) _ k
theorem Evl.EvL.go (h : EvL te σ H xs) (k : ∀ p H1, H p = none → Ex H H1 → H1 p = some (.lst xs) → Q (.ref p) H1) : te σ H Q := h H (Ex.refl _) _ k
end
end L2
/-! The same with something behind. -/
namespace L2
open PySem PySem.Spec PyProof.Rows Evl
section
variable {σ : L2.St} {H : Hp} {D : Ends} {te : TE} {tA : TA} {t u tz : TS} {tt : TT}
theorem q_par {i j : Nat} (h : tA σ H fun vs H1 => ∃ v w, vs = [v, w] ∧ tz D ((σ.set i (some v)).set j (some w)) H1) : tSeq (tPar i j tA) tz D σ H := h
theorem q_set {i : Nat} (h : te σ H fun x H1 => tz D (σ.set i (some x)) H1) : tSeq (tAsg te (gName i)) tz D σ H := h
theorem q_asgX {g : TG} (h : te σ H fun x H1 => g x σ H1 (tz D)) : tSeq (tAsg te g) tz D σ H := h
theorem q_dropX (h : te σ H fun _ H1 => tz D σ H1) : tSeq (tDrop te) tz D σ H := h
theorem q_ifX (h : tt σ H fun b H1 => if b = true then t { D with nx := tz D } σ H1 else u { D with nx := tz D } σ H1) : tSeq (tIfS tt t u) tz D σ H := h
end
end L2
/-! An exception that a clause has caught and given to another name: it is tracked behind the suite; its fields are read, its class is asked. -/
namespace L2
open PySem PySem.Spec PyProof.Rows
/-- at a: a caught exception, by its class and its dict -/
def exk (a : Addr) (cls : Value) (d : Option Addr) : HO := .ext fun h => ∃ (oe : Obj) (vs : Array Value), h.get? a = some oe ∧ Zc cls d oe ∧ oe.data = .fields vs
section
variable {X : Cx} {pins : List (Addr × Obj)} {σ : St} {H : Hp} {s : Shared}
theorem exk_ok {P : Program} {w : World} {H : Hp} {h : Heap} {a : Addr} {cls : Value} {d : Option Addr} {oe : Obj} {vs : Array Value} (e : h.get? a = some oe) (z : Zc cls d oe) (q : oe.data = .fields vs) : ObjOk P w H h a (exk a cls d) :=
  ⟨⟨oe, vs, e, z, q⟩, ⟨oe, e⟩, fun _ _ ⟨o, v, e1, r⟩ k => ⟨o, v, k o e1, r⟩⟩
theorem exk_at {P : Program} {w : World} {h : Heap} {a : Addr} {cls : Value} {d : Option Addr} (ok : HOk P w H h) (e : H a = some (exk a cls d)) : ∃ (oe : Obj) (vs : Array Value), h.get? a = some oe ∧ Zc cls d oe ∧ oe.data = .fields vs := by
  have q : ObjOk P w H h a (.ext fun h => ∃ (oe : Obj) (vs : Array Value), h.get? a = some oe ∧ Zc cls d oe ∧ oe.data = .fields vs) := ok a _ e
  exact q.1
/-- an object that came up behind the entry, and isn't tracked, is tracked from now on -/
theorem Inv.taken {a : Addr} {o : HO} {oe : Obj} (I : Inv X pins σ H s) (ha : s.heap.get? a = some oe) (na : H a = none) (n0 : X.s_0.heap.get? a = none) (nL : a ≠ X.env.locals) (nC : ∀ v, oe.data ≠ .cell v) (nP : ∀ p ∈ X.pn ++ pins, p.1 ≠ a)
    (new : ObjOk X.prog X.w (upd H a o) s.heap a o) : Inv X pins σ (upd H a o) s := by
  have ne0 : ∀ {b : Addr} {u : Obj}, X.s_0.heap.get? b = some u → b ≠ a := fun {b u} q z => by
    rw [z, n0] at q
    cases q
  refine ⟨I.ok, I.os, I.bare, ⟨I.base.keep, I.base.slot, fun b u q n z => ?_, I.base.there, fun b xs q => ?_, fun b u v q => ?_, fun b ps q => ?_⟩, I.loc, I.cell, ?_, fun y c e => ?_, fun p hp => ?_, fun b u q => ?_, I.len⟩
  · rw [upd_ne (ne0 q)]
    exact I.base.free b u q n z
  · have z := I.base.tups b xs q
    rw [upd_ne (ne_of_none z na)]
    exact z
  · have z := I.base.frzs b u v q
    rw [upd_ne (ne_of_none z na)]
    exact z
  · obtain ⟨m, z⟩ := I.base.tbls b ps q
    exact ⟨m, by rw [upd_ne (ne_of_none z na)]; exact z⟩
  · rw [upd_ne (Ne.symm nL)]
    exact I.free
  · have n : c ≠ a := fun z => by
      obtain ⟨v, o', h1, h2⟩ := I.cell y c e
      rw [z, ha] at h1
      cases h1
      exact nC _ h2
    rw [upd_ne n]
    exact I.freeC y c e
  · obtain ⟨h1, h2, h3⟩ := I.pin p hp
    exact ⟨h1, by rw [upd_ne (nP p hp)]; exact h2, h3⟩
  · by_cases hb : b = a
    · subst hb
      rw [upd_same] at q
      cases q
      exact new
    · rw [upd_ne hb] at q
      exact (I.hok b u q).stay (fun _ _ _ r => r) (fun c r => by rw [upd_ne (ne_of_none r na)]; exact r) fun c xs r => by rw [upd_ne (ne_of_none r na)]; exact r
end
/-- what 'except x as n: suite' wishes of the body, the exception tracked behind the suite -/
def wHold (K : PySem.W.Frag) (c : Value) (i : Nat) (ts : Addr → Value → Option Addr → TS) (Wo : WX) (D : Ends) : WX := fun cls d σ H => ∃ b, PySem.W.exmOne K cls c = some b ∧
  (b = true → ∀ a, H a = none → ts a cls d ⟨fun σ' H' => D.nx (σ'.set i none) (upd H' a (exk a cls d)), D.rt, fun _ _ => False, fun _ _ => False⟩ (σ.set i (some (.ref a))) H) ∧ (b = false → Wo cls d σ H)
section
variable {X : Cx} {x n : Str} {c : Value} {i : Nat} {body rest : List Stmt} {st0 : Stmt} {np pos pos' : Pos} {tb : WX → TS} {ts : Addr → Value → Option Addr → TS} {Wo : WX}
theorem ps_try_hold (hs : X.stack = X.env :: X.outer) (hf : X.env.frame = some X.env.locals) (hex : X.ex = []) (hN : X.N.Nodup) (hi : X.N[i]? = some n) (hln : X.env.kindOf n = some .local) (hc : Names X x c) (tk : Takes X Wo)
    (hb : ∀ (W : WX) (pn : List (Addr × Obj)) (xe : Value → Shared → Prop), Takes (X.tr pn xe) W → PassesOwn (model X.prog X.w) X.A X.env xe → PSs (X.tr pn xe) body (tb W))
    (hu : ∀ (a : Addr) (oe : Obj) (cls : Value) (d : Option Addr) (pn : List (Addr × Obj)), Zc cls d oe → (∃ vs, oe.data = .fields vs) → PSs (X.suite a ((a, oe) :: pn)) (st0 :: rest) (ts a cls d)) :
    PS X (.Try body [.ExceptHandler (some (.Name x np)) (some n) (st0 :: rest) pos'] [] [] pos) (fun D σ H => tb (wHold X.K c i ts Wo D) D σ H) := by
  refine ⟨fun pins s σ H D I h => ?_⟩
  have ok := I.ok
  have frA : X.A.frames = some (X.env :: X.outer) := ok.frames.trans (congrArg some hs)
  refine wpAny_Try_except ?_
  let xe1 : Value → Shared → Prop := fun e s1 => wpAny (model X.prog X.w) X.A (noteFrame e X.env) (fun _ s2 => wpAny (model X.prog X.w) X.A (setFlight e none) (fun _ s3 =>
    wpAny (model X.prog X.w) X.A (handleBy e X.env [.ExceptHandler (some (.Name x np)) (some n) (st0 :: rest) pos']) (SP X pins D) X.xe s3) X.xe s2) X.xe s1
  have took : Takes (X.tr (X.pn ++ pins) xe1) (wHold X.K c i ts Wo D) := by
    rintro u s1 ⟨a, B, sI, pins', σ1, H1, cls, d, rfl, J0, below, up, sky, na, eos, gb, b, eb, yes, no⟩
    have J : Inv X pins σ1 H1 sI := J0.ofTry ok
    rw [show (X.tr (X.pn ++ pins) xe1).stack = X.env :: X.outer from hs] at sky
    show wpAny (model X.prog X.w) X.A (noteFrame (.ref a) X.env) _ _ _
    refine Sky.land Zc.steady frA hf sky fun h3 f3 up3 => ?_
    have J3 : Inv X pins σ1 H1 { s1 with heap := h3 } := J.landed below f3.1 (up.trans up3) eos gb
    obtain ⟨o3, v3, e3, z3, d3⟩ := f3.there
    have nfr : a ∉ frs (X.env :: X.outer) := fun hm => by
      obtain ⟨_, o', q, hno⟩ := f3.2.2.1.mem hm
      rw [e3] at q
      cases q
      exact hno _ d3
    have nL : a ≠ X.env.locals := fun z => nfr (List.mem_filterMap.mpr ⟨X.env, List.mem_cons_self, hf.trans (congrArg some z.symm)⟩)
    have nF : a ∉ X.fs := fun hm => by
      obtain ⟨en, he, q⟩ := List.mem_filterMap.mp hm
      exact nfr (List.mem_filterMap.mpr ⟨en, List.mem_cons_of_mem _ he, q⟩)
    -- it wasn't there at the entry, nor is it pinned
    have gone : ∀ {b : Addr} {o : Obj}, sI.heap.get? b = some o → b ≠ a := fun {b o} q z => by
      subst z
      have := below b o q (by rw [show (X.tr (X.pn ++ pins) xe1).stack = X.env :: X.outer from hs]; exact nfr)
      rw [f3.2.1] at this
      cases this
    have n0 : X.s_0.heap.get? a = none := by
      cases q : X.s_0.heap.get? a with
      | none => rfl
      | some o =>
        obtain ⟨o', q'⟩ := J.base.there a o q (by rw [hex]; exact fun z => nomatch z)
        exact absurd rfl (gone q')
    have nP : ∀ p ∈ X.pn ++ pins, p.1 ≠ a := fun p hp => gone (J.pin p hp).1
    have S3 := J3.suite e3 d3 na nL nF
    refine wpAny_handleBy_cons (codeAny_handlers_test ?_) (by intro q; cases q)
    have LT : PySem.W.Looks (model X.prog X.w) h3 (typeOf (.ref a)) cls := fun _ _ _ _ k q => wpAny_typeOf_ref (k _ _ e3) (by rw [z3.1]; exact q)
    have LM := PySem.W.exm_one (M := model X.prog X.w) J3.kIn LT eb
    have named : ∀ {Q E : Value → Shared → Prop}, Q c { s1 with heap := h3 } → wpAny (model X.prog X.w) (X.A.mark (some (.ref a))) (eval (.Name x np) X.env) Q E { s1 with heap := h3 } := fun {Q E} q => by
      obtain ⟨g1, g2, g3 | ⟨g3, g4, g5⟩⟩ := hc
      · exact ld_glob (X := X.suite a ((a, o3) :: (X.pn ++ pins))) S3 g1 g3 q g2
      · exact ld_blt (X := X.suite a ((a, o3) :: (X.pn ++ pins))) S3 g1 g3 g4 q g5 g2
    refine named (LM.here ?_)
    cases b with
    | true =>
      refine codeAny_handlers_suite_as (HandSPX.lands_againZ f3 fun h4 f4 up4 => ?_)
      have J4 : Inv X pins σ1 H1 { s1 with heap := h4 } := J.landed below f4.1 ((up.trans up3).trans up4) eos gb
      obtain ⟨o4, v4, e4, z4, d4⟩ := f4.there
      refine store_ok (X := X.suite a ((a, o4) :: (X.pn ++ pins))) (v := .ref a) (J4.suite e4 d4 na nL nF) hN hi (.inl hln) rfl (fun s5 S5 => ?_) (.inr hln)
      refine wpAny_mono ((hu a o4 cls d (X.pn ++ pins) z4 ⟨_, d4⟩).run [] s5 _ H1 _ S5 (yes rfl a na)) (fun fl s6 q6 => ?_) fun _ _ z => z.elim
      cases fl with
      | next =>
        obtain ⟨σ6, H6, S6, r6⟩ := q6
        refine gone_ok (X := X.suite a ((a, o4) :: (X.pn ++ pins))) S6 hN hi hln fun s7 S7 => ?_
        obtain ⟨e7, n7, _⟩ := S7.pin (a, o4) (List.mem_append_left _ List.mem_cons_self)
        exact ⟨_, _, (S7.unsuite ok).taken e7 n7 n0 nL (fun v z => by rw [d4] at z; cases z) nP (exk_ok e7 z4 d4), r6⟩
      | ret u =>
        obtain ⟨v6, σ6, H6, S6, rv, r6⟩ := q6
        exact gone_ok (S6.unsuite ok) hN hi hln fun s7 J7 => ⟨_, _, _, J7, rv, r6⟩
      | brk =>
        obtain ⟨_, _, _, r6⟩ := q6
        exact r6.elim
      | cont =>
        obtain ⟨_, _, _, r6⟩ := q6
        exact r6.elim
    | false =>
      refine wpAny_handleBy_nil ?_
      obtain ⟨_, _, _, oe, vs, T, oT, ts', he, hz, hd, h1, hr⟩ := id f3
      unfold PySem.passOn
      refine wpAny_bind (wpAny_field he hd h1 ?_)
      rw [if_neg (show ¬ ((Value.ref T == Value.none) = true) by simp)]
      have on : wpAny (model X.prog X.w) X.A (setFlight (.ref a) X.env.frame) (fun _ s4 => wpAny (model X.prog X.w) X.A (throw (.ref a) : Sem Flow) (SP X pins D) X.xe s4) X.xe { s1 with heap := h3 } := by
        rw [hf]
        refine HandSPX.setFlight_upZ f3 fun h4 g4 up4 => wpAny_throw (tk _ _ ?_)
        exact ⟨a, B, sI, pins, σ1, H1, cls, d, rfl, J, below, (up.trans up3).trans up4, .inr (.inr (by rw [hs]; exact g4)), na, eos, gb, no rfl⟩
      first
        | exact wpAny_bind (wpAny_pure (wpAny_bind on))
        | exact wpAny_bind on
  refine wpAny_mono ((hb _ (X.pn ++ pins) xe1 took PassesOwn.looking).run [] s σ H D (I.toTry _) h) (fun fl s1 q => ?_) fun _ _ z => z
  cases fl with
  | next =>
    obtain ⟨σ', H', J', r⟩ := q
    exact wpAny_execs_nil ⟨σ', H', J'.ofTry ok, r⟩
  | brk =>
    obtain ⟨σ', H', J', r⟩ := q
    exact ⟨σ', H', J'.ofTry ok, r⟩
  | cont =>
    obtain ⟨σ', H', J', r⟩ := q
    exact ⟨σ', H', J'.ofTry ok, r⟩
  | ret u =>
    obtain ⟨v, σ', H', J', rv, r⟩ := q
    exact ⟨v, σ', H', J'.ofTry ok, rv, r⟩
end
/-- what the class of a caught exception says of reading and asking it -/
structure XkC (K : PySem.W.Frag) (C : Addr) : Prop where
  ga : PySem.W.findIn K (.ref C) "__getattribute__" = some (some (.builtin "BaseException.__getattribute__"))
  gg : PySem.W.findIn K (.ref C) "__getattr__" = some none
  sub : PySem.W.subIn K (.ref C) (.type "BaseException") = some true
  hd : PySem.W.hasDictIn K C = true
  is : IsC K C
def xkB (K : PySem.W.Frag) (x : Str) : Bool :=
  He.eqO (PySem.W.findIn K (.ref (He.ga K x)) "__getattribute__") (some (some (.builtin "BaseException.__getattribute__"))) && (He.eqO (PySem.W.findIn K (.ref (He.ga K x)) "__getattr__") (some none) &&
  (decide (PySem.W.subIn K (.ref (He.ga K x)) (.type "BaseException") = some true) && (PySem.W.hasDictIn K (He.ga K x) && tyB K x)))
theorem xkB_ok {K : PySem.W.Frag} {x : Str} (h : xkB K x = true) : XkC K (He.ga K x) := by
  obtain ⟨h1, h⟩ := He.ba h
  obtain ⟨h2, h⟩ := He.ba h
  obtain ⟨h3, h⟩ := He.ba h
  obtain ⟨h4, h5⟩ := He.ba h
  exact ⟨He.eqO_ok h1, He.eqO_ok h2, of_decide_eq_true h3, h4, tyB_ok h5⟩
/-- an exception of the class at C, with these fields -/
structure ExcAt (H : Hp) (a C d : Addr) (fs : List (Str × V)) : Prop where
  at_ : H a = some (exk a (.ref C) (some d))
  dict : H d = some (.xd fs)
theorem ExcAt.ex {H H' : Hp} {a C d : Addr} {fs : List (Str × V)} (x : ExcAt H a C d fs) (e : Evl.Ex H H') : ExcAt H' a C d fs := ⟨e _ _ x.at_, e _ _ x.dict⟩
section
variable {X : Cx} {pins : List (Addr × Obj)} {σ : St} {H : Hp} {s : Shared} {a C d : Addr} {fs : List (Str × V)}
theorem ExcAt.inst (I : Inv X pins σ H s) (x : ExcAt H a C d fs) : ∃ (oe od : Obj) (mA : Str → Option Value), PySem.W.InstAt s.heap a oe C (some od) ∧ (∀ f, RelO (fs.lookup f) (mA f)) ∧ ∀ name, PySem.W.lookIn name od = some (mA name) := by
  obtain ⟨oe, vs, e1, z, e2⟩ := exk_at I.hok x.at_
  have q : ObjOk X.prog X.w H s.heap d (.xd fs) := I.hok d _ x.dict
  obtain ⟨mA, hn, r⟩ := q
  obtain ⟨od, ho, hl⟩ := lookIn_ns hn
  exact ⟨oe, od, mA, ⟨e1, z.1, by unfold PySem.W.notCls; rw [e2] <;> rfl, by rw [z.2]; exact ho⟩, r, hl⟩
/-- e.f of a caught exception -/
def tXk (K : PySem.W.Frag) (te : TE) (f : Str) : TE := fun σ H Q => te σ H fun x H1 => ∃ (a C d : Addr) (fs : List (Str × V)) (v : V), x = .ref a ∧ ExcAt H1 a C d fs ∧ XkC K C ∧ NoAttr K C f ∧ fs.lookup f = some v ∧ Q v H1
theorem pe_xk {e : Expr} {te : TE} {pos : Pos} {f : Str} (he : PE X e te) (hb : attributeBase e f X.env (eval e X.env) = eval e X.env := by rfl) : PE X (.Attribute e f pos) (tXk X.K te f) := by
  refine ⟨fun pins s σ H Q I h => ?_⟩
  refine attr_of hb (thn (he.run pins s σ H _ I h) fun u s1 ⟨x, H1, I1, rx, a, C, d, fs, v, ex, xa, T, hno, l, q⟩ => ?_)
  subst ex
  obtain rfl : u = Value.ref a := rx
  obtain ⟨oe, od, mA, J, r, hl⟩ := xa.inst I1
  obtain ⟨w', hw, rw'⟩ := RelO.some_of (v := v) (o := mA f) (by rw [← l]; exact r f)
  exact HandSPX.exc_get I1.kIn J T.ga T.gg T.sub (PySem.W.findObj_own T.hd hno rfl (by rw [hl, hw])) (handed_of rw') ⟨v, H1, I1.tok _, rw', q⟩
theorem xk_kit (I : Inv X pins σ H s) (x : ExcAt H a C d fs) (T : XkC X.K C) : ∃ P : Heap → Prop, PySem.W.KitX X.K (.ref a) (.ref C) P ∧ P s.heap := by
  obtain ⟨oe, od, mA, J, _, _⟩ := x.inst I
  obtain ⟨cd, hcd, _⟩ := PySem.W.any_some T.hd
  exact ⟨_, PySem.W.kitx_exc (by rw [hcd]; rfl) T.ga T.gg T.sub T.is.ha T.is.hn T.is.htk T.is.hm, J⟩
/-- isinstance(e, c), isinstance(e, (c1, ..)) of a caught exception -/
def rIsk (K : PySem.W.Frag) : List V → Hp → VK → Prop := fun xs H Q => ∃ (a C d : Addr) (fs : List (Str × V)) (c : V) (u : Value) (b : Bool), xs = [.ref a, c] ∧ ExcAt H a C d fs ∧ XkC K C ∧ ClsV c u ∧ PySem.W.kitOne K (.ref C) u = some b ∧ Q (.bl b) H
def rIskT (K : PySem.W.Frag) : List V → Hp → VK → Prop := fun xs H Q => ∃ (a C d tp : Addr) (fs : List (Str × V)) (cs : List V) (us : List Value) (b : Bool), xs = [.ref a, .ref tp] ∧ ExcAt H a C d fs ∧ XkC K C ∧ H tp = some (.tup cs) ∧ Paired ClsV cs us ∧
  PySem.W.kitAny K (.ref C) us = some b ∧ Q (.bl b) H
theorem call_isk : CallR X (.builtin "isinstance") (rIsk X.K) := by
  intro pins s σ H xs us Q I r h
  obtain ⟨a, C, d, fs, c, u, b, rfl, xa, T, k, e, q⟩ := h
  obtain ⟨u1, u2, rfl, r1, r2⟩ := vals2 r
  obtain rfl : u1 = Value.ref a := r1
  have e2 := k.eq r2
  subst e2
  obtain ⟨P, Z, p⟩ := xk_kit I xa T
  exact PySem.W.kia_one Z I.kIn p e (fun z => nomatch z) fun tk => ⟨.bl b, H, I.tok tk, rfl, q⟩
theorem call_iskT : CallR X (.builtin "isinstance") (rIskT X.K) := by
  intro pins s σ H xs us Q I r h
  obtain ⟨a, C, d, tp, fs, cs, ws, b, rfl, xa, T, hT, k, e, q⟩ := h
  obtain ⟨u1, u2, rfl, r1, r2⟩ := vals2 r
  obtain rfl : u1 = Value.ref a := r1
  obtain rfl : u2 = Value.ref tp := r2
  obtain ⟨P, Z, p⟩ := xk_kit I xa T
  have ot : ObjOk X.prog X.w H s.heap tp (.tup cs) := I.hok tp _ hT
  obtain ⟨_, its, rv, o, h1, h2, n, h3⟩ := ot
  have e3 := ClsV.all k rv
  subst e3
  obtain ⟨oc, od, dt, sl⟩ := o
  simp only at h2 h3
  subst h2 h3
  exact PySem.W.kia_tup Z I.kIn p h1 e (fun z => nomatch z) fun tk => ⟨.bl b, H, I.tok tk, rfl, q⟩
end
/-! R.__init__(self, ..), R an own class over ValueError that has no __init__ -/
structure BaseC (K : PySem.W.Frag) (R : Addr) : Prop where
  rd : PySem.W.readsIn K R (.type "type") = true
  ga : PySem.W.specialIn K (.ref R) "__getattribute__" = some (some (.builtin "type.__getattribute__"))
  at_ : PySem.W.findCls K (.ref R) (.type "type") "__init__" = some (.val (.builtin "ValueError.__init__"))
def baseB (K : PySem.W.Frag) (x : Str) : Bool := PySem.W.readsIn K (He.ga K x) (.type "type") && (He.eqO (PySem.W.specialIn K (.ref (He.ga K x)) "__getattribute__") (some (some (.builtin "type.__getattribute__"))) &&
  (match PySem.W.findCls K (.ref (He.ga K x)) (.type "type") "__init__" with
    | some (.val (.builtin m)) => decide (m = "ValueError.__init__")
    | _ => false))
theorem baseB_ok {K : PySem.W.Frag} {x : Str} (h : baseB K x = true) : BaseC K (He.ga K x) := by
  obtain ⟨h1, h⟩ := He.ba h
  obtain ⟨h2, h3⟩ := He.ba h
  refine ⟨h1, He.eqO_ok h2, ?_⟩
  split at h3
  · rename_i m q
    rw [q, of_decide_eq_true h3]
  · cases h3
section
variable {X : Cx} {e : Expr} {es : List Expr} {ta : TA} {p1 p2 pos : Pos} {R : Addr} {x : Str}
theorem pe_baseinit {pl : Sem Bool} (hg : Gl X x) (hm : X.mg x = some (.ref R)) (B : BaseC X.K R) (ha : PA X (e :: es) ta)
    (hc : eval (.Call (.Attribute (.Name x p1) "__init__" p2) (e :: es) [] pos) X.env = (do
      let ov ← eval (.Name x p1) X.env
      standAt p2.atName
      let (f, first) ← holding [ov] (getMethod ov "__init__" pl)
      callWith pos f first (backTo pos (starEach (e :: es) X.env)) (backToKw pos (keywordEach [] X.env))) := by rfl)
    (hd : (x == ("__debug__" : Str)) = false := by decide) (he : starEach (e :: es) X.env = (false, eval e X.env) :: starEach es X.env := by rfl) (hpl : (backTo pos (starEach es X.env)).any (·.1) = false := by rfl) :
    PE X (.Call (.Attribute (.Name x p1) "__init__" p2) (e :: es) [] pos) (tVeI X.K ta) := by
  refine ⟨fun pins s σ H Q I h => ?_⟩
  refine PySem.W.methodCall_KW (ld_glob I hg hm ?_ hd) hc
  refine PySem.W.method_cls I.kIn B.ga (PySem.W.cls_value I.kIn B.rd B.at_ (by decide +kernel) ?_)
  show wpAny _ _ (callWith pos (Value.builtin "ValueError.__init__") [] (backTo pos (starEach (e :: es) X.env)) []) _ _ _
  refine PyProof.Rows.callWith_method1 (thn (ha.run pos pins _ σ H _ (I.tok _) h) fun us s1 ⟨vs, H1, I1, r1, a, C, ws, ev, hl, T, ea, q⟩ => ?_) he hpl
  subst ev
  cases r1 with
  | @cons _ u0 _ ur r0 rr =>
    obtain rfl : u0 = Value.ref a := r0
    have hz : ur.length ≤ sizeLine := by
      rw [← Paired.length rr, sizeLine_eq]
      omega
    exact oinit_ok T I1 ea hz fun s' J => ⟨.non, H1, J, rfl, q⟩
end
end L2
/-! constants of the module; what an own exception class must say to be made -/
namespace L2
open PySem PySem.Spec PyProof.Rows
section
variable {X : Cx} {x : Str} {pos : Pos}
theorem pe_gi {i : Int} (hg : Gl X x) (h : ∃ t, X.mg x = some (.int i t)) (hd : (x == ("__debug__" : Str)) = false := by decide) : PE X (.Name x pos) (tC (.int i)) := by
  obtain ⟨t, h⟩ := h
  exact pe_glob hg h ⟨t, rfl⟩ hd
theorem pe_gs {z : Str} (hg : Gl X x) (h : ∃ t, X.mg x = some (.str z t)) (hd : (x == ("__debug__" : Str)) = false := by decide) : PE X (.Name x pos) (tC (.str z)) := by
  obtain ⟨t, h⟩ := h
  exact pe_glob hg h ⟨t, rfl⟩ hd
end
def oexL (K : PySem.W.Frag) (C : Addr) : Bool := match K.lookup C with
  | some ⟨.type "type", _, .cls cd, sl⟩ => (match cd.mro, sl.toList with
    | .ref B :: bm, [_, _, _, _, some (.builtin n), _] => decide (B = C) && (decide (n = "ValueError.__new__") && (!cd.hasDel && (cd.hasDict && PySem.HandSPX.refsVE bm)))
    | _, _ => false)
  | _ => false
theorem oexL_ok {K : PySem.W.Frag} {C : Addr} (h : oexL K C = true) : ∃ nm q N bs bm sn sub ab col dd k0 k1 k2 k3 k5, K.lookup C = some (excClassObj nm q C N bs bm true sn sub ab col dd k0 k1 k2 k3 k5 "ValueError.__new__") ∧ PySem.HandSPX.refsVE bm = true := by
  unfold oexL at h
  split at h
  · rename_i dd cd sl ho
    split at h
    · rename_i B bm k0 k1 k2 k3 n k5 hm hs
      obtain ⟨h1, h⟩ := He.ba h
      obtain ⟨h2, h⟩ := He.ba h
      obtain ⟨h3, h⟩ := He.ba h
      obtain ⟨h4, h5⟩ := He.ba h
      have e1 := of_decide_eq_true h1
      have e2 := of_decide_eq_true h2
      subst e1 e2
      obtain ⟨nm, bs, mro, ns, qn, hd, sn, sub, ab, col, del⟩ := cd
      have e3 : del = false := by
        cases del with
        | false => rfl
        | true => cases h3
      have e4 : hd = true := h4
      have e5 : mro = .ref B :: bm := hm
      subst e3 e4 e5
      have e6 : sl = #[k0, k1, k2, k3, some (.builtin "ValueError.__new__"), k5] := by
        obtain ⟨l⟩ := sl
        simp only at hs
        rw [hs]
      subst e6
      exact ⟨nm, qn, ns, bs, bm, sn, sub, ab, col, dd, k0, k1, k2, k3, k5, ho, h5⟩
    · cases h
  · cases h
def oexB (K : PySem.W.Frag) (x : Str) : Bool := oexL K (He.ga K x) && (He.eqO (PySem.W.findIn K (.ref (He.ga K x)) "__setattr__") (some (some (.builtin "object.__setattr__"))) &&
  (decide (PySem.W.subIn K (.ref (He.ga K x)) (.type "BaseException") = some true) && (decide (PySem.W.typeIn K (.ref (He.ga K x)) = some (.type "type")) && PySem.W.keepIn K (.ref (He.ga K x)))))
theorem oexB_ok {K : PySem.W.Frag} {x : Str} (h : oexB K x = true) : OexC K (He.ga K x) := by
  obtain ⟨h1, h⟩ := He.ba h
  obtain ⟨h2, h⟩ := He.ba h
  obtain ⟨h3, h⟩ := He.ba h
  obtain ⟨h4, h5⟩ := He.ba h
  exact ⟨oexL_ok h1, He.eqO_ok h2, of_decide_eq_true h3, of_decide_eq_true h4, h5⟩
/-- an exception's class asked of others -/
def kitsB (K : PySem.W.Frag) (x : Str) (ys : List (Str × Bool)) : Bool := ys.all fun y => decide (PySem.W.kitOne K (.ref (He.ga K x)) (.ref (He.ga K y.1)) = some y.2)
theorem kitsB_ok {K : PySem.W.Frag} {x : Str} {ys : List (Str × Bool)} (h : kitsB K x ys = true) {y : Str} {b : Bool} (m : (y, b) ∈ ys) : PySem.W.kitOne K (.ref (He.ga K x)) (.ref (He.ga K y)) = some b :=
  of_decide_eq_true (List.all_eq_true.mp h (y, b) m)
/-- the own __init__ of such a class: R.__init__(self, text); self.f = value -/
def sp_exi (C : Addr) (f : Str) : Sp := fun vs H Q _ => ∃ (a : Addr) (v : V), vs = [.ref a, v] ∧ H a = some (exo a C none) ∧ ∀ dx, H dx = none → dx ≠ a → Q .non (upd (upd H dx (exd dx [(f, v)])) a (exo a C (some dx)))
section
variable {X : Cx} {C : Addr} {f : Str}
/-- what raise C(e) asks, by that __init__ -/
theorem mk_exi {σ : St} {H : Hp} {Q : XK} {ta : TA} {v : V} (h : Evl.EvA ta σ H [v]) (k : ∀ H1 d, Evl.Ex H H1 → H1 d = none → Q (.ref C) (some d) (upd H1 d (.xd [(f, v)]))) : tMkO C (sp_exi C f) [] ta σ H Q :=
  h H (Evl.Ex.refl _) _ fun H1 e1 => ⟨by show 1 ≤ 1000; decide, fun a ha => by
    refine ⟨a, v, rfl, upd_same, fun dx hdx ne => ⟨rfl, dx, [(f, v)], upd_same, ?_, ?_, ?_⟩⟩
    · rw [upd_ne ne, upd_same]
    · rw [upd_ne ne] at hdx
      exact hdx
    · have hd1 : H1 dx = none := by
        rw [upd_ne ne] at hdx
        exact hdx
      have e : upd (del (upd (upd (upd H1 a (exo a C none)) dx (exd dx [(f, v)])) a (exo a C (some dx))) a) dx (.xd [(f, v)]) = upd H1 dx (.xd [(f, v)]) := by
        funext b
        by_cases hb : b = dx
        · rw [hb, upd_same, upd_same]
        · rw [upd_ne hb, upd_ne hb]
          by_cases hba : b = a
          · rw [hba, del_same, ha]
          · rw [del_ne hba, upd_ne hba, upd_ne hb, upd_ne hba]
      rw [e]
      exact k H1 dx e1 hd1⟩
end
end L2
/-! for i, c in enumerate(text); text * n. -/
namespace L2
open PySem PySem.Spec PyProof.Rows
/-- a text's signs, each with its number in a new pair -/
def Itse (z : Str) : It := ⟨fun i _ => i < z.cps.size, fun i H v H' => ∃ (T : Addr) (c : Nat), v = .ref T ∧ H T = none ∧ H' = upd H T (.tup [.int (i : Nat), .str ⟨#[c]⟩]) ∧ z.cps[i]? = some c, fun i _ => i = z.cps.size⟩
theorem draws_str {prog : Program} {w : World} {A : Around} (hh : A.handled = none) (it : Addr) (z : Str) (t : Tok) :
    Draws prog w A it [it] z.cps.size (fun i v => ∃ c u, z.cps[i]? = some c ∧ v = .str ⟨#[c]⟩ u) (fun i h => h.IsStrIter it (strIterType z) z t i) := by
  unfold strIterType
  by_cases ha : z.cps.all (· < 128) = true
  · rw [if_pos ha]
    exact Draws.strAscii hh it z t
  · rw [if_neg ha]
    exact Draws.strWide hh it z t
theorem turn_enumS {P : Program} {w : World} {K : PySem.W.Frag} {elts : List Expr} {kk : Nat} {tpos : Pos} (z : Str) (t : Tok) (e it : Addr) :
    Turn P w K (.Tuple elts kk tpos) (Itse z) [e, it] e (fun i h => (∃ old, IsEnum h e it ((i : Nat) : Int) old) ∧ h.IsStrIter it (strIterType z) z t i ∧ e ≠ it) where
  mem := by simp
  obj := fun i h st b hb => by
    obtain ⟨⟨old, he⟩, ⟨o, ho, hc, hd⟩, _⟩ := st
    have bb : b = e ∨ b = it := by simpa using hb
    rcases bb with q | q
    · subst q
      exact ⟨_, he, fun v y => nomatch y⟩
    · subst q
      exact ⟨o, ho, fun v y => by rw [hd] at y; cases y⟩
  keep := fun i h h' st k => by
    obtain ⟨⟨old, he⟩, ⟨o, ho, r⟩, ne⟩ := st
    exact ⟨⟨old, k e (by simp) _ he⟩, ⟨o, k it (by simp) _ ho, r⟩, ne⟩
  item := by
    intro X hP hw hK hc i pins s σ H E I hf st hg
    subst hP hw hK
    obtain ⟨⟨old, he⟩, hit, ne⟩ := st
    have le : e < s.heap.objs.size := Heap.lt_size he
    have li : it < s.heap.objs.size := by
      obtain ⟨_, q, _⟩ := hit
      exact Heap.lt_size q
    refine wpAny_pyNext_enum_itemD (draws_str (A := X.A.in1) (I.ok.hd hc) it z t) he hit hg ne (by simpa using ne) fun x h' tk px ho st' hT hz hk => ?_
    obtain ⟨c, u, ec, rfl⟩ := px
    refine ⟨_, rfl, wpAny_letOwnedTupleGo_enum (s := { s with heap := h', toks := tk + 1 }) ho fun h'' he' sb => ?_⟩
    have hT2 : h''.get? s.heap.objs.size = some { cls := .type "tuple", data := .seq #[.int i tk, .str ⟨#[c]⟩ u] } := (sb.2 _ (Nat.ne_of_gt le)).trans hT
    have new : ObjOk X.prog X.w (upd H s.heap.objs.size (.tup [.int (i : Nat), .str ⟨#[c]⟩])) h'' s.heap.objs.size (.tup [.int (i : Nat), .str ⟨#[c]⟩]) :=
      ⟨by show 2 ≤ sizeLine; decide, [.int i tk, .str ⟨#[c]⟩ u], .cons ⟨_, rfl⟩ (.cons ⟨_, rfl⟩ .nil), ⟨_, hT2, rfl, _, rfl⟩⟩
    have J : Inv X pins σ (upd H s.heap.objs.size (.tup [.int (i : Nat), .str ⟨#[c]⟩])) { s with heap := h'', toks := tk + 1 } :=
      I.turnedNew (ch := [e, it]) (fun b ob hb q => (sb.2 b (fun y => hb (by simp [y]))).trans (hk b ob (fun y => hb (by simp [y])) (fun y => hb (by simp [y])) q)) hf (Nat.le_refl _) new
    refine ⟨.ref s.heap.objs.size, _, J, rfl, ⟨_, c, rfl, I.hok.fresh (Nat.le_refl _), rfl, ec⟩, ⟨⟨.str ⟨#[c]⟩ u, ?_⟩, ?_, ne⟩, fun b hb => ?_⟩
    · have e1 : ((i + 1 : Nat) : Int) = (i : Int) + 1 := by omega
      rw [e1]
      exact he'
    · obtain ⟨o, q, r⟩ := st'
      exact ⟨o, (sb.2 it (Ne.symm ne)).trans q, r⟩
    · have lb : b < s.heap.objs.size := by
        have bb : b = e ∨ b = it := by simpa using hb
        rcases bb with q | q
        · rw [q]
          exact le
        · rw [q]
          exact li
      rw [upd_ne (Nat.ne_of_lt lb)]
      exact (hf b hb).1
  done := by
    intro X hP hw hK hc i pins s σ H E I hf st hg
    subst hP hw hK
    obtain ⟨⟨old, he⟩, hit, ne⟩ := st
    obtain ⟨f0, f1, f2, f3, f4, f5⟩ := hf it (by simp)
    have q : i = z.cps.size := hg
    subst q
    exact wpAny_pyNext_enum_endD (draws_str (A := X.A.in1) (I.ok.hd hc) it z t) he hit fun h' eb => ⟨rfl, I.turned (t' := s.toks) (fun b o hb y => eb b o hb y) f0 f1 f3 f4 f5⟩
  self := fun A i s Q E st h => by
    obtain ⟨⟨_, he⟩, _⟩ := st
    exact wpAny_pyIter_enum he h
def iEnumS (ta : TA) : TI := fun σ H R => ta σ H fun vs H1 => ∃ z : Str, vs = [.str z] ∧ R (Itse z) H1
theorem pi_enumS {X : Cx} {e : Expr} {ta : TA} {p pos tpos : Pos} {elts : List Expr} {kk : Nat} (hg : Gl X "enumerate") (hm : X.mg "enumerate" = none) (ha : PA X [e] ta) (hs : starEach [e] X.env = [(false, eval e X.env)] := by rfl) :
    PI X (.Tuple elts kk tpos) (.Call (.Name "enumerate" p) [e] [] pos) (iEnumS ta) := by
  refine ⟨fun pins s σ H R I h => ?_⟩
  refine Call_ (ld_blt I hg hm boot_enumerate (PyProof.Rows.callWith_type1 (thn (ha.run pos pins s σ H _ I h) fun us s1 ⟨vs, H1, I1, r1, z, ez, q⟩ => ?_) hs rfl))
  subst ez
  obtain ⟨u, rfl, t, rfl⟩ := vals1 r1
  refine call_enumerate_str fun h' he hit hsz hk => wpAny_pyIter_enum he ?_
  have J : Inv X pins σ H1 { s1 with heap := h' } := I1.kept (t' := s1.toks) hk
  refine ⟨s1.heap.objs.size + 1, [s1.heap.objs.size + 1, s1.heap.objs.size], _, _, H1, rfl, J, turn_enumS z t (s1.heap.objs.size + 1) s1.heap.objs.size, ⟨⟨.none, he⟩, hit, Nat.succ_ne_self _⟩, fun b hb => ?_, q⟩
  have bb : b = s1.heap.objs.size + 1 ∨ b = s1.heap.objs.size := by simpa using hb
  have lb : s1.heap.objs.size ≤ b := by
    rcases bb with q | q
    · rw [q]
      exact Nat.le_add_right _ _
    · rw [q]
      exact Nat.le_refl _
  exact I1.fpOk lb (I1.hok.fresh lb)
/-- the loop: Pv i holds ahead of the i-th sign -/
theorem for_enumS {z : Str} {g : TG} {tb : TS} {D : Ends} {σ : St} {H : Hp} (Pv : Nat → St → Hp → Prop) (h0 : Pv 0 σ H)
    (hs : ∀ i c σ H T, z.cps[i]? = some c → Pv i σ H → H T = none → g (.ref T) σ (upd H T (.tup [.int (i : Nat), .str ⟨#[c]⟩])) fun σ2 H2 => tb { D with nx := Pv (i + 1), ct := Pv (i + 1), bk := D.nx } σ2 H2) (hd : ∀ σ H, Pv z.cps.size σ H → D.nx σ H) :
    ∃ W : Nat → Nat → St → Hp → Prop, (∃ m, W 0 m σ H) ∧ ∀ i m σ H, W i m σ H →
      ((Itse z).stop i H ∧ D.nx σ H) ∨ ((Itse z).go i H ∧ ∃ N : St → Hp → Prop, (∀ σ' H', N σ' H' → ∃ m', m' < m ∧ W (i + 1) m' σ' H') ∧ ∀ x H', (Itse z).yld i H x H' → g x σ H' fun σ2 H2 => tb { D with nx := N, ct := N, bk := D.nx } σ2 H2) := by
  refine ⟨fun i m σ H => m = z.cps.size - i ∧ i ≤ z.cps.size ∧ Pv i σ H, ⟨z.cps.size, by simp, Nat.zero_le _, h0⟩, ?_⟩
  rintro i m σ H ⟨rfl, hi, p⟩
  by_cases lt : i < z.cps.size
  · refine .inr ⟨lt, Pv (i + 1), fun σ' H' p' => ⟨z.cps.size - (i + 1), by omega, rfl, lt, p'⟩, fun x H' y => ?_⟩
    obtain ⟨T, c, rfl, hT, rfl, ec⟩ := y
    exact hs i c σ H T ec p hT
  · have e : i = z.cps.size := by omega
    subst e
    exact .inl ⟨rfl, hd σ H p⟩
/-- text * n, n small -/
def rMulS : R2 := fun x y H Q => ∃ (z : Str) (n : Nat), x = .str z ∧ y = .int (n : Int) ∧ z.length ≤ 1000 ∧ n ≤ 1000 ∧ Q (.str ⟨(List.replicate n z.cps.toList).flatten.toArray⟩) H
theorem rep_fold (n : Nat) (a : Array Nat) (b : Array Nat) : ((List.replicate n a).foldl (· ++ ·) b).toList = b.toList ++ (List.replicate n a.toList).flatten := by
  induction n generalizing b with
  | zero => simp
  | succ n ih =>
    rw [List.replicate_succ, List.foldl_cons, ih, List.replicate_succ, List.flatten_cons]
    simp
theorem op_mulS {X : Cx} : OpR X (binaryOp .Mult) rMulS := by
  intro pins s σ H x y v u Q I rx ry h
  obtain ⟨z, n, rfl, rfl, hz, hn, q⟩ := h
  obtain ⟨t, rfl⟩ := rx
  obtain ⟨t', rfl⟩ := ry
  have zl : z.length = z.cps.size := rfl
  have big : z.length * n ≤ 1000 * 1000 := Nat.mul_le_mul hz hn
  refine PySem.P.mul_str (by rw [decide_eq_false (by omega), decide_eq_false (by omega)]; rfl) (fun h1 _ h2 => ?_) (fun h1 _ => ?_) ?_
  · have h3 : (n : Int) * ((2 ^ 63 - 1) / (n : Int)) > 2 ^ 63 - 1 - (n : Int) := by
      have := Int.lt_ediv_add_one_mul_self (2 ^ 63 - 1) (show (0 : Int) < n by omega)
      have e := Int.mul_comm ((2 ^ 63 - 1) / (n : Int)) n
      have e2 : ((2 ^ 63 - 1) / (n : Int) + 1) * (n : Int) = (2 ^ 63 - 1) / (n : Int) * n + n := by rw [Int.add_mul, Int.one_mul]
      omega
    have h4 : (n : Int) * ((2 ^ 63 - 1) / (n : Int)) ≤ (n : Int) * (z.length : Int) := Int.mul_le_mul_of_nonneg_left (by omega) (by omega)
    have h5 : (n : Int) * (z.length : Int) = ((z.length * n : Nat) : Int) := by rw [Int.natCast_mul, Int.mul_comm]
    omega
  · rw [Int.toNat_natCast]
    unfold PySem.Builtin.Str.tooLong
    exact decide_eq_false (by rw [sizeLine_eq]; omega)
  · by_cases h1 : (n : Int) < 1
    · rw [if_pos h1]
      have n0 : n = 0 := by omega
      subst n0
      exact ⟨by decide, ⟨.str _, H, I.tok _, ⟨_, rfl⟩, q⟩⟩
    · rw [if_neg h1]
      by_cases h2 : ((n : Int) == 1 || z.length == 0) = true
      · rw [if_pos h2]
        have e : (⟨(List.replicate n z.cps.toList).flatten.toArray⟩ : Str) = z := by
          rw [Bool.or_eq_true, beq_iff_eq, beq_iff_eq] at h2
          rcases h2 with h2 | h2
          · have : n = 1 := by omega
            subst this
            simp
          · have : z.cps = #[] := Array.eq_empty_of_size_eq_zero h2
            obtain ⟨cps⟩ := z
            dsimp only at this
            subst this
            simp
        rw [e] at q
        exact ⟨.str z, H, I, ⟨_, rfl⟩, q⟩
      · rw [if_neg h2]
        have e : (⟨(List.replicate (n : Int).toNat z.cps).foldl (· ++ ·) #[]⟩ : Str) = ⟨(List.replicate n z.cps.toList).flatten.toArray⟩ := by
          rw [Int.toNat_natCast]
          congr 1
          apply Array.ext'
          rw [rep_fold]
          simp
        rw [e]
        refine ⟨?_, ⟨.str _, H, I.tok _, ⟨_, rfl⟩, q⟩⟩
        show ((List.replicate n z.cps.toList).flatten.toArray).size ≤ sizeLine
        rw [List.size_toArray, List.length_flatten, List.map_replicate, List.sum_replicate_nat, sizeLine_eq]
        have zz : z.cps.toList.length = z.length := by simp [Str.length]
        rw [zz, Nat.mul_comm]
        omega
end L2
namespace L2
open PySem PySem.Spec PyProof.Rows _root_.Evl
section
variable {σ : L2.St} {H : Hp} {t u : TT} {b : Bool}
theorem et_and0 (h : EvT t σ H false) : EvT (tAnd t u) σ H false := fun H1 e Q q => h H1 e _ fun H2 e2 => iteF (q H2 e2)
theorem et_and1 (h : EvT t σ H true) (h2 : EvT u σ H b) : EvT (tAnd t u) σ H b := fun H1 e Q q => h H1 e _ fun H2 e2 => iteT (h2 H2 (e.trans e2) Q fun H3 e3 => q H3 (e2.trans e3))
theorem et_or1 (h : EvT t σ H true) : EvT (tOr t u) σ H true := fun H1 e Q q => h H1 e _ fun H2 e2 => iteT (q H2 e2)
theorem et_or0 (h : EvT t σ H false) (h2 : EvT u σ H b) : EvT (tOr t u) σ H b := fun H1 e Q q => h H1 e _ fun H2 e2 => iteF (h2 H2 (e.trans e2) Q fun H3 e3 => q H3 (e2.trans e3))
theorem q_forE {te : TE} {g : TG} {tu tz : TS} {D : Ends} {z : Str} (h : Ev te σ H (.str z)) (Pv : Nat → St → Hp → Prop) (h0 : ∀ H1, Ex H H1 → Pv 0 σ H1)
    (hs : ∀ i c σ' H' T, z.cps[i]? = some c → Pv i σ' H' → H' T = none → g (.ref T) σ' (upd H' T (.tup [.int (i : Nat), .str ⟨#[c]⟩])) fun σ2 H2 => tu { D with nx := Pv (i + 1), ct := Pv (i + 1), bk := tz D } σ2 H2) (hd : ∀ σ' H', Pv z.cps.size σ' H' → tz D σ' H') :
    tSeq (tFor (iEnumS (tCons te tNil)) g tu) tz D σ H := h H (Ex.refl _) _ fun H1 e1 => ⟨z, rfl, for_enumS (D := { D with nx := tz D }) Pv (h0 H1 e1) hs hd⟩
theorem q_two {K : PySem.W.Frag} {tA : TA} {i j : Nat} {tz : TS} {D : Ends} {v w : V} (h : EvA tA σ H [v, w]) (k : ∀ H1, Ex H H1 → tz D ((σ.set i (some v)).set j (some w)) H1) : tSeq (tAsg (tTup tA) (gTup K 2 (gCons (gName i) (gCons (gName j) gNil)))) tz D σ H :=
  h H (Ex.refl _) _ fun H1 e1 => ⟨by show 2 ≤ sizeLine; decide, fun p hp => ⟨p, _, rfl, st_of upd_same, rfl, _, _, rfl, _, _, rfl, rfl, k _ (e1.trans (Ex.new hp))⟩⟩
end
end L2
/-! for c in text; list.count of truths; comprehensions over zip and over rows. -/
namespace L2
open PySem PySem.Spec PyProof.Rows _root_.Evl
/-- for c in text, something behind -/
theorem q_forS {σ : L2.St} {H : Hp} {te : TE} {j : Nat} {tu tz : TS} {D : Ends} {z : Str} (h : Ev te σ H (.str z)) (Pv : Nat → St → Hp → Prop) (h0 : ∀ H1, Ex H H1 → Pv 0 σ H1)
    (hs : ∀ i c σ' H', z.cps[i]? = some c → Pv i σ' H' → tu { D with nx := Pv (i + 1), ct := Pv (i + 1), bk := tz D } (σ'.set j (some (.str ⟨#[c]⟩))) H') (hd : ∀ σ' H', Pv z.cps.size σ' H' → tz D σ' H') :
    tSeq (tFor (iStr te) (gName j) tu) tz D σ H := h H (Ex.refl _) _ fun H1 e1 => ⟨z, rfl, fun i m σ' H' => m = z.cps.size - i ∧ i ≤ z.cps.size ∧ Pv i σ' H', ⟨z.cps.size, by simp, Nat.zero_le _, h0 H1 e1⟩, by
      rintro i m σ' H' ⟨rfl, hi, p⟩
      by_cases lt : i < z.cps.size
      · refine .inr ⟨lt, Pv (i + 1), fun σ2 H2 p2 => ⟨z.cps.size - (i + 1), by omega, rfl, lt, p2⟩, fun x H2 y => ?_⟩
        obtain ⟨rfl, c, hc, rfl⟩ := y
        exact hs i c σ' _ hc p
      · have e : i = z.cps.size := by omega
        subst e
        exact .inl ⟨Nat.le_refl _, hd σ' H' p⟩⟩
/-- list.count of a truth, of truths -/
def rCntB (K : PySem.W.Frag) : V → List V → Hp → VK → Prop := fun x xs H Q => ∃ (p : Addr) (bs : List Bool) (k : Bool), x = .ref p ∧ xs = [.bl k] ∧ SqL K H p (bs.map V.bl) ∧ Q (.int (bs.count k : Nat)) H
theorem bools_vals : ∀ {bs : List Bool} {us : List Value}, Vals (bs.map V.bl) us → us = bs.map Value.bool
  | [], _, .nil => rfl
  | b :: r, _, .cons h t => by
    rw [bools_vals t]
    cases h
    rfl
theorem bools_reads (hp : Heap) : ∀ bs : List Bool, ∃ as, ReadsAll hp (bs.map Value.bool) (bs.map PyData.bool) as
  | [] => ⟨_, .nil⟩
  | b :: r => by
    obtain ⟨as, h⟩ := bools_reads hp r
    exact ⟨_, .cons (.bool b) h⟩
theorem bools_count (k : Bool) : ∀ bs : List Bool, countIn (.bool k) (bs.map PyData.bool) = ((bs.count k : Nat) : Int)
  | [] => rfl
  | b :: r => by
    rw [List.map_cons, countIn, bools_count k r, List.count_cons]
    cases b <;> cases k <;> simp [same] <;> omega
theorem mt_lcountB {X : Cx} : MtR X "list.count" (rCntB X.K) := by
  intro pins s σ H x xs v us Q I rx rxs h
  obtain ⟨p, bs, k, rfl, rfl, hs, q⟩ := h
  cases rx
  obtain ⟨u, rfl, ru⟩ := rxs.one
  cases ru
  obtain ⟨its, rv, ⟨⟨cls, dd, data, sl⟩, n, ho, hc, hdn, hd⟩, hlen⟩ := I.list hs
  simp only at hc hd
  have e := bools_vals rv
  obtain ⟨as, ra⟩ := bools_reads s.heap bs
  rw [← e] at ra
  refine count_list_bools (hp := s.heap) ⟨_, ho, hc, n, hd⟩ ra (by
    rw [List.all_eq_true]
    intro d hd
    obtain ⟨b, _, rfl⟩ := List.mem_map.mp hd
    rfl) ?_
  rw [bools_count]
  exact ⟨.int _, H, I.tok _, ⟨_, rfl⟩, q⟩
/-- what a comprehension that yields pairs wants of its iterator -/
theorem lc_pairs {K : PySem.W.Frag} {σ : L2.St} {H : Hp} {te : TE} {Q : VK} {J : It} {xs ys : List V} {j l : Nat} {vs : List Nat} (v : Nat → V) (hl : xs.length ≤ 1000)
    (hgo : ∀ i H', Ex H H' → i < xs.length → J.go i H') (hstop : ∀ H', Ex H H' → J.stop xs.length H')
    (hy : ∀ i x H' H'', Ex H H' → J.yld i H' x H'' → ∃ T a b, x = .ref T ∧ H' T = none ∧ H'' = upd H' T (.tup [a, b]) ∧ xs[i]? = some a ∧ ys[i]? = some b)
    (hw : ∀ x y, wipe (((wipe σ vs).set j (some x)).set l (some y)) vs = wipe σ vs)
    (he : ∀ (i : Nat) (x y : V) H1, Ex H H1 → xs[i]? = some x → ys[i]? = some y → Ev te (((wipe σ vs).set j (some x)).set l (some y)) H1 (v i))
    (k : ∀ p H1, H p = none → Ex H H1 → H1 p = some (.lst ((List.range xs.length).map v)) → Q (.ref p) H1) :
    tLc (fun _ H1 R => R J H1) (gTup K 2 (gCons (gName j) (gCons (gName l) gNil))) tYes te vs σ H Q := by
  intro D hD
  refine ⟨fun i m H' => m = xs.length - i ∧ i ≤ xs.length ∧ Ex H H' ∧ H' D = some (.lst ((List.range i).map v)), ⟨xs.length, rfl, Nat.zero_le _, Ex.new hD, upd_same⟩, ?_⟩
  rintro i m H' ⟨rfl, hi, e, h⟩
  by_cases lt : i < xs.length
  · refine .inr ⟨hgo i H' e lt, fun H2 => Ex H H2 ∧ H2 D = some (.lst ((List.range (i + 1)).map v)), fun H2 ⟨e2, h2⟩ => ⟨xs.length - (i + 1), by omega, rfl, lt, e2, h2⟩, fun x H2 y => ?_⟩
    obtain ⟨T, a, b, rfl, hT, rfl, hx, hyb⟩ := hy i x H' H2 e y
    refine ⟨T, _, rfl, st_of upd_same, rfl, _, _, rfl, _, _, rfl, rfl, hw a b, ?_⟩
    refine he i a b _ (e.trans (Ex.new hT)) hx hyb _ (Ex.refl _) _ fun H3 e3 => ?_
    have e03 : Ex H' H3 := (Ex.new hT).trans e3
    refine ⟨_, e03 _ _ h, ?_, ?_, ?_⟩
    · rw [List.length_map, List.length_range, sizeLine_eq]
      omega
    · exact Ex.mut (e.trans e03) hD
    · rw [upd_same, List.range_succ, List.map_append]
      rfl
  · have e2 : i = xs.length := by omega
    subst e2
    exact .inl ⟨hstop H' e, k D H' hD e h⟩
theorem el_lcZ {K : PySem.W.Frag} {σ : L2.St} {H : Hp} {ta tb te : TE} {a b : Addr} {xs ys : List V} {j l : Nat} {vs : List Nat} (v : Nat → V) (ha : Ev ta σ H (.ref a)) (hb : Ev tb σ H (.ref b)) (hxy : (SqL K H a xs ∧ SqL K H b ys) ∨ (SqT K H a xs ∧ SqT K H b ys)) (hl : xs.length ≤ 1000) (hll : xs.length = ys.length)
    (hw : ∀ x y, wipe (((wipe σ vs).set j (some x)).set l (some y)) vs = wipe σ vs)
    (he : ∀ (i : Nat) (x y : V) H1, Ex H H1 → xs[i]? = some x → ys[i]? = some y → Ev te (((wipe σ vs).set j (some x)).set l (some y)) H1 (v i)) :
    EvL (tLc (RZ.iZipA K (tCons ta (tCons tb tNil))) (gTup K 2 (gCons (gName j) (gCons (gName l) gNil))) tYes te vs) σ H ((List.range xs.length).map v) := fun H0 e Q q =>
  ha H0 e _ fun H1 e1 => hb H1 (e.trans e1) _ fun H2 e2 => by
    have eA : Ex H H2 := (e.trans e1).trans e2
    have lt2 : ∀ {i : Nat}, i < xs.length → ys[i]? = some (ys.getD i .non) := fun {i} hi => by
      rw [List.getD_eq_getElem?_getD, List.getElem?_eq_getElem (by omega)]
      rfl
    have lt1 : ∀ {i : Nat}, i < xs.length → xs[i]? = some (xs.getD i .non) := fun {i} hi => by
      rw [List.getD_eq_getElem?_getD, List.getElem?_eq_getElem hi]
      rfl
    rcases hxy with ⟨hx, hy⟩ | ⟨hx, hy⟩
    · refine ⟨a, b, xs, ys, rfl, .inl ⟨ex_l eA hx, ex_l eA hy, ?_⟩⟩
      exact lc_pairs (K := K) (H := H2) (J := Itz K a b) (xs := xs) (ys := ys) v hl (fun i H' e' hi => ⟨xs, ys, _, _, ex_l (eA.trans e') hx, ex_l (eA.trans e') hy, lt1 hi, lt2 hi⟩) (fun H' e' => ⟨xs, ys, ex_l (eA.trans e') hx, ex_l (eA.trans e') hy, .inl (Nat.le_refl _)⟩)
        (fun i x H' H'' e' y => by
          obtain ⟨T, x', y', rfl, hT, rfl, f1, f2⟩ := y
          exact ⟨T, x', y', rfl, hT, rfl, f1 _ (ex_l (eA.trans e') hx), f2 _ (ex_l (eA.trans e') hy)⟩) hw (fun i x y H3 e3 h1 h2 => he i x y H3 (eA.trans e3) h1 h2) fun p H3 hp e3 h3 => q p H3 (fresh_back (e1.trans e2) hp) ((e1.trans e2).trans e3) h3
    · refine ⟨a, b, xs, ys, rfl, .inr ⟨ex_t eA hx, ex_t eA hy, ?_⟩⟩
      exact lc_pairs (K := K) (H := H2) (J := RZ.ItzT K a b) (xs := xs) (ys := ys) v hl (fun i H' e' hi => ⟨xs, ys, _, _, ex_t (eA.trans e') hx, ex_t (eA.trans e') hy, lt1 hi, lt2 hi⟩) (fun H' e' => ⟨xs, ys, ex_t (eA.trans e') hx, ex_t (eA.trans e') hy, .inl (Nat.le_refl _)⟩)
        (fun i x H' H'' e' y => by
          obtain ⟨T, x', y', rfl, hT, rfl, f1, f2⟩ := y
          exact ⟨T, x', y', rfl, hT, rfl, f1 _ (ex_t (eA.trans e') hx), f2 _ (ex_t (eA.trans e') hy)⟩) hw (fun i x y H3 e3 h1 h2 => he i x y H3 (eA.trans e3) h1 h2) fun p H3 hp e3 h3 => q p H3 (fresh_back (e1.trans e2) hp) ((e1.trans e2).trans e3) h3
/-! ''.join of single signs -/
theorem jn_ones : ∀ zs : List Nat, TL.joinL [] (zs.map fun c => [c]) = zs
  | [] => rfl
  | [_] => rfl
  | a :: b :: r => by
    show [a] ++ ([] ++ TL.joinL [] ((b :: r).map fun c => [c])) = _
    rw [jn_ones (b :: r)]
    rfl
theorem jn_text (zs : List Nat) : Txt.join (Str.ofString "") (zs.map fun c => (⟨#[c]⟩ : Str)) = ⟨zs.toArray⟩ := by
  have h : TL.tl (Txt.join (Str.ofString "") (zs.map fun c => (⟨#[c]⟩ : Str))) = zs := by
    rw [TL.join_eq, TL.tl_join, List.map_map]
    exact jn_ones zs
  rw [← TL.mk_tl (Txt.join (Str.ofString "") (zs.map fun c => (⟨#[c]⟩ : Str))), h]
theorem jn_sum (zs : List Nat) : ((zs.map fun c => (⟨#[c]⟩ : Str)).map (·.length)).sum = zs.length := by
  induction zs with
  | nil => rfl
  | cons a r ih =>
    rw [List.map_cons, List.map_cons, List.sum_cons, ih, List.length_cons]
    show 1 + _ = _
    omega
/-- x //= e, something behind -/
theorem q_augF {σ : L2.St} {H : Hp} {te : TE} {tz : TS} {D : Ends} {i : Nat} {a b : Int} (hx : σ[i]? = some (some (.int a))) (h : Ev te σ H (.int b)) (hb : CDiv a b) (k : ∀ H1, Ex H H1 → tz D (σ.set i (some (.int (a / b)))) H1) : tSeq (tAug i te (rI CDiv fun i j => .int (i / j))) tz D σ H :=
  ⟨.int a, hx, h H (Ex.refl H) _ fun H1 e => ⟨a, b, rfl, rfl, hb, k H1 e⟩⟩
theorem et_yes {σ : L2.St} {H : Hp} : EvT tYes σ H true := fun H8 _ Q' q' => q' H8 (Ex.refl _)
/-! caught exceptions, asked -/
section
variable {K : PySem.W.Frag} {σ : L2.St} {H : Hp} {ta tu te : TE} {t : TT}
theorem rv_isN {x : V} : RV (fun x y H Q => y = .non ∧ Q (.bl (decide (x = .non))) H) x .non H (.bl (decide (x = .non))) := fun H1 _ Q q => ⟨rfl, q H1 (Ex.refl _)⟩
theorem rc_isk {a C d : Addr} {fs : List (Str × V)} {c : V} {u : Value} {b : Bool} (xa : ExcAt H a C d fs) (T : XkC K C) (hc : ClsV c u) (hk : PySem.W.kitOne K (.ref C) u = some b) : RC (rIsk K) [.ref a, c] H (.bl b) := fun H1 e Q q =>
  ⟨a, C, d, fs, c, u, b, rfl, xa.ex e, T, hc, hk, q H1 (Ex.refl _)⟩
theorem ev_iskT {a C d : Addr} {fs : List (Str × V)} {cls : List V} {us : List Value} {b : Bool} (ha : Ev ta σ H (.ref a)) (hu : EvU tu σ H cls) (xa : ExcAt H a C d fs) (T : XkC K C) (hc : Paired ClsV cls us) (hk : PySem.W.kitAny K (.ref C) us = some b) :
    Ev (tCB (rIskT K) (tCons ta (tCons tu tNil))) σ H (.bl b) := fun H1 e Q q =>
  ha H1 e _ fun H2 e2 => hu H2 (e.trans e2) _ fun tp H3 _ e3 h3 => ⟨a, C, d, tp, fs, cls, us, b, rfl, xa.ex ((e.trans e2).trans e3), T, h3, hc, hk, q H3 (e2.trans e3)⟩
theorem ev_xk {a C d : Addr} {fs : List (Str × V)} {f : Str} {v : V} (ha : Ev ta σ H (.ref a)) (xa : ExcAt H a C d fs) (T : XkC K C) (hn : NoAttr K C f) (hl : fs.lookup f = some v) : Ev (tXk K ta f) σ H v := fun H1 e Q q =>
  ha H1 e _ fun H2 e2 => ⟨a, C, d, fs, v, rfl, xa.ex (e.trans e2), T, hn, hl, q H2 e2⟩
/-- isinstance(x, (c, ..)) -/
theorem ev_isiT {x : V} {t : Value} {cls : List V} {us : List Value} {b : Bool} (hx : Ev ta σ H x) (hu : EvU tu σ H cls) (ht : ∀ H1, Ex H H1 → TyX K H1 x t) (hc : Paired ClsV cls us) (hk : PySem.W.kitAny K t us = some b) : Ev (tCB (rIsiT K) (tCons ta (tCons tu tNil))) σ H (.bl b) := fun H1 e Q q =>
  hx H1 e _ fun H2 e2 => hu H2 (e.trans e2) _ fun tp H3 _ e3 h3 => ⟨x, tp, cls, t, us, b, rfl, h3, hc, ht H3 ((e.trans e2).trans e3), hk, q H3 (e2.trans e3)⟩
theorem ev_all {xs : List V} {bs : List Bool} (h : EvL te σ H xs) (hx : xs = bs.map V.bl) : Ev (tCB (rAll K) (tCons te tNil)) σ H (.bl (bs.all id)) := fun H1 e Q q =>
  h H1 e _ fun p H2 _ e2 h2 => ⟨p, bs, rfl, sq_of (by rw [← hx]; exact h2), q H2 e2⟩
/-- xs + [..], of a list that stands there -/
theorem el_cat {a : Addr} {xs ys : List V} (ha : Ev ta σ H (.ref a)) (hx : H a = some (.lst xs)) (h : EvL tu σ H ys) (hn : xs.length + ys.length ≤ 100000) : EvL (tOp rCat ta tu) σ H (xs ++ ys) := fun H1 e Q q =>
  ha H1 e _ fun H2 e2 => h H2 (e.trans e2) _ fun b H3 hb e3 h3 => ⟨a, b, xs, ys, rfl, rfl, ((e.trans e2).trans e3) _ _ hx, h3, sz_of hn, fun p hp => q p _ (fresh_back (e2.trans e3) hp) ((e2.trans e3).trans (Ex.new hp)) upd_same⟩
theorem ev_eqB {a b : Bool} (ha : Ev ta σ H (.bl a)) (hb : Ev tu σ H (.bl b)) : Ev (tOp rEq ta tu) σ H (.bl (a == b)) := by
  have h := ev_op ha hb (rv_eq (x := .bl a) (y := .bl b) rfl)
  rw [dec_bl] at h
  exact h
theorem ev_neB {a b : Bool} (ha : Ev ta σ H (.bl a)) (hb : Ev tu σ H (.bl b)) : Ev (tOp rNe ta tu) σ H (.bl (a != b)) := by
  have h := ev_op ha hb (rv_ne (x := .bl a) (y := .bl b) rfl)
  rw [dec_bl] at h
  exact h
end
/-! rows of three: loops and comprehensions by their parts -/
section
variable {K : PySem.W.Frag} {σ : L2.St} {H : Hp} {ta te : TE} {t : TT} {D : Ends} {tu tz : TS} {a : Addr} {rs : List V} {j1 j2 j3 : Nat}
theorem q_forT3 (h : Ev ta σ H (.ref a)) (Pv : Nat → L2.St → Hp → Prop) (h0 : ∀ H1, Ex H H1 → Pv 0 σ H1) (hl : ∀ i σ' H', i ≤ rs.length → Pv i σ' H' → SqL K H' a rs)
    (hs : ∀ i v σ' H', rs[i]? = some v → Pv i σ' H' → ∃ r x y z, v = .ref r ∧ H' r = some (.tup [x, y, z]) ∧ tu { D with nx := Pv (i + 1), ct := Pv (i + 1), bk := tz D } (((σ'.set j1 (some x)).set j2 (some y)).set j3 (some z)) H') (hd : ∀ σ' H', Pv rs.length σ' H' → tz D σ' H') :
    tSeq (tFor (iList K ta) (gTup K 3 (gCons (gName j1) (gCons (gName j2) (gCons (gName j3) gNil)))) tu) tz D σ H := h H (Ex.refl _) _ fun H1 e1 => ⟨a, rfl, ⟨rs, hl 0 σ H1 (Nat.zero_le _) (h0 H1 e1)⟩, fun i m σ' H' => m = rs.length - i ∧ i ≤ rs.length ∧ Pv i σ' H', ⟨rs.length, by simp, Nat.zero_le _, h0 H1 e1⟩, by
      rintro i m σ' H' ⟨rfl, hi, p⟩
      have q := hl i σ' H' hi p
      by_cases lt : i < rs.length
      · refine .inr ⟨⟨rs, rs[i], q, by simp [lt]⟩, Pv (i + 1), fun σ2 H2 p2 => ⟨rs.length - (i + 1), by omega, rfl, lt, p2⟩, fun v H2 y => ?_⟩
        obtain ⟨rfl, y⟩ := y
        obtain ⟨r, x, y, z, rfl, hr, hb⟩ := hs i v σ' _ (y rs q) p
        exact ⟨r, _, rfl, st_of hr, rfl, _, _, rfl, _, _, rfl, _, _, rfl, rfl, hb⟩
      · have e : i = rs.length := by omega
        subst e
        exact .inl ⟨⟨rs, q, Nat.le_refl _⟩, hd σ' H' p⟩⟩
theorem el_lcT3 {vs : List Nat} (f : Nat → Bool) (v : Nat → V) (h : Ev ta σ H (.ref a)) (hx : SqL K H a rs) (hz : rs.length ≤ 40000) (hw : ∀ x y z, wipe ((((wipe σ vs).set j1 (some x)).set j2 (some y)).set j3 (some z)) vs = wipe σ vs)
    (hr : ∀ i u, rs[i]? = some u → ∃ r x y z, u = .ref r ∧ H r = some (.tup [x, y, z]) ∧ ∀ H1, Ex H H1 → EvT t ((((wipe σ vs).set j1 (some x)).set j2 (some y)).set j3 (some z)) H1 (f i) ∧ (f i = true → Ev te ((((wipe σ vs).set j1 (some x)).set j2 (some y)).set j3 (some z)) H1 (v i))) :
    EvL (tLc (iList K ta) (gTup K 3 (gCons (gName j1) (gCons (gName j2) (gCons (gName j3) gNil)))) t te vs) σ H (given rs.length f v) := fun H0 e Q q => h H0 e _ fun H1 e1 => ⟨a, rfl, ⟨rs, ex_l (e.trans e1) hx⟩, fun Dl hD =>
  lc_list (xs := rs) (Cw H1 f v Dl) ⟨hD, Ex.new hD, upd_same⟩ (fun i H' _ p => ex_l ((e.trans e1).trans p.2.1) hx) (fun i u H' hi p => by
      obtain ⟨r, x, y, z, rfl, hrr, hE⟩ := hr i u hi
      have hlt : i < rs.length := (List.getElem?_eq_some_iff.mp hi).1
      exact ⟨r, _, rfl, st_of (((e.trans e1).trans p.2.1) _ _ hrr), rfl, _, _, rfl, _, _, rfl, _, _, rfl, rfl, hw x y z, cw_turn p (by omega) (hE H1 (e.trans e1)).1 (hE H1 (e.trans e1)).2⟩)
    fun H' p => q Dl H' (fresh_back e1 p.1) (e1.trans p.2.1) p.2.2⟩
end
/-- what may raise, where it doesn't -/
theorem FnOk.calm {P : Program} {w : World} {K : PySem.W.Frag} {mg : Str → Option Value} {base : Heap} {k : Nat} {f : Addr} {fd : FuncData} {ps : List Str} {sp sp0 : Sp} (F : FnOk P w K mg base (L2.CX P w) k f fd ps sp) (h : ∀ vs H Q E, sp0 vs H Q E → sp vs H Q E0) : FnOk P w K mg base CX0 k f fd ps sp0 :=
  ⟨fun vs H Q E q => F.len _ _ _ _ (h _ _ _ _ q), fun A outer s H args us vs Q E hr he hb hv hs => codeAny_mono (F.run A outer s H args us vs Q _ hr he hb hv (h _ _ _ _ hs)) fun r s' hq => by
    cases r with
    | ok v =>
      cases v with
      | ret u => exact hq
      | _ => exact hq
    | error e =>
      obtain ⟨_, _, _, _, _, _, _, _, _, _, _, _, z⟩ := hq
      exact z⟩
end L2
/-! Own values at the machine's level: !=, what a built-in's == says to an own instance, in. -/
namespace OwQ
open PySem PySem.W PySem.Spec PyProof.Rows
section
variable {prog : Program} {w : World} {A : Around} {E : Value → Shared → Prop} {s : Shared} {K : PySem.W.Frag} {x C f : Addr} {ox : Obj} {od : Option Obj} {b tb : Value}
/-- a special that is a built-in's slot, at an own instance -/
theorem ifBound_B {M : Model} {name : Str} {id : String} {args : List Value} {Q : Option Value → Shared → Prop} (X : K.In s.heap) (I : InstAt s.heap x ox C od) (hs : findIn K (.ref C) name = some (some (.builtin id)))
    (hb : ∀ self, bindSpecial (.builtin id) self = pure (.builtin id, [self])) (h : wpAny M A (call (.builtin id) (.ref x :: args)) (fun v => Q (some v)) E s) : wpAny M A (callSpecialIfBound? (.ref x) name args) Q E s := by
  simp only [callSpecialIfBound?, bindSpecialIfBound?]
  refine wpAny_holding (wpAny_bind (wpAny_bind (wpAny_bind (I.type.here ((looks_findIn X hs).here ?_)))))
  refine wpAny_bind (wpAny_askSetting (wpAny_ite ?_))
  have fin : wpAny M A (call (.builtin id) ([.ref x] ++ args) >>= fun v => pure (some v)) Q E s := wpAny_bind (wpAny_mono h (fun v s' h' => wpAny_pure h') fun _ _ h' => h')
  split
  · exact wpAny_bind ((Looks.of_pure (hb _)).here (wpAny_pure (by exact fin)))
  · exact wpAny_tryCatch (wpAny_bind ((Looks.of_pure (hb _)).here (wpAny_pure (by exact fin))))
/-- object.__ne__ of an own instance with an own __eq__ -/
theorem one_ne {Q : Value → Shared → Prop} (hu : A.in1.units < cLine) (X : K.In s.heap) (I : InstAt s.heap x ox C od) (hm : mroIn K C (.type "object") = some true) (hs : findIn K (.ref C) "__eq__" = some (some (.ref f))) (hf : isFn K (.ref f) = true)
    (h : wpAny (model prog w) A.in1 (call (.ref f) [.ref x, b]) (fun v s' => ∃ r, v = .bool r ∧ Q (.bool (!r)) s') E s) : wpAny (model prog w) A (call (.builtin "object.__ne__") [.ref x, b]) Q E s := by
  refine wpAny_call (codeAny_call_builtin PySem.F.slot_object_ne.plain PySem.F.cmpEntry_ne (check_slot (i := "object.__ne__") (owner := "object") (n := "__ne__") PySem.F.cmpKind_ne PySem.F.cmpSplit_ne (I.type.andThen (looks_mroIn X hm)) (PySem.F.cmpArgs_ne _ _) ?_))
  unfold Builtin.«object.__ne__»
  refine wpAny_bind (m := slotArgs "__ne__" 1 _) (wpAny_pure ?_)
  refine wpAny_bind (m := cRoomFor _ _) (wpAny_cRoomFor hu ?_)
  refine wpAny_bind (m := callSpecialIfBound? (.ref x) (Str.ofString "__eq__") [b]) (ifBound_K X I hs hf (wpAny_mono h (fun r s' hr => ?_) fun _ _ y => y))
  obtain ⟨r, rfl, hq⟩ := hr
  exact wpAny_bind (wpAny_truthy_bool (wpAny_pure hq))
/-- x != b, x an own instance with an own __eq__ -/
theorem ne_K {L : Addr} {h₀ : Heap} {m : Str → Option Value} {Q : Value → Shared → Prop} (hu : A.in1.units < cLine) (F : Fr h₀ L s.heap m) (X₀ : K.In h₀) (I : InstAt s.heap x ox C od) (hb : Looks (model prog w) s.heap (typeOf b) tb) (hn : notFirst K C tb = true)
    (hne : findIn K (.ref C) "__ne__" = some (some (.builtin "object.__ne__"))) (hm : mroIn K C (.type "object") = some true) (hs : findIn K (.ref C) "__eq__" = some (some (.ref f))) (hf : isFn K (.ref f) = true)
    (h : wpAny (model prog w) A.in1 (call (.ref f) [.ref x, b]) (fun v s' => ∃ r, v = .bool r ∧ Q (.bool (!r)) s') E s) : wpAny (model prog w) A (richCompare .NotEq (.ref x) b) Q E s := by
  have X := X₀.keeps F.keep
  have hu0 : A.units < cLine := Nat.lt_of_succ_lt hu
  have one : wpAny (model prog w) A (tryCompare (.ref x) (cmpInfo .NotEq).2.1 b) (fun r s' => ∃ v, r = some v ∧ Q v s') E s := by
    unfold tryCompare
    refine wpAny_bind (ifBound_B X I hne PySem.F.slot_object_ne.bind (one_ne hu X I hm hs hf (wpAny_mono h (fun v s' hv => ?_) fun _ _ e => e)))
    obtain ⟨r, rfl, hq⟩ := hv
    exact ⟨r, rfl, wpAny_pure ⟨_, rfl, hq⟩⟩
  unfold richCompare
  simp only [oneThing_ref]
  refine wpAny_holding (wpAny_bind (wpAny_cRoomFor hu0 ?_))
  refine wpAny_bind (I.type.here (wpAny_bind (hb.here ?_)))
  split
  · rename_i q
    have e : subIn K tb (.ref C) = some false := by
      rcases Bool.or_eq_true_iff.mp hn with e | e
      · rw [beq_iff_eq.mp e] at q; simp at q
      · exact beq_iff_eq.mp e
    refine wpAny_bind ((looks_subIn X e).here ?_)
    simp only [Bool.false_eq_true, if_false]
    refine wpAny_bind (wpAny_mono one (fun r s' z => ?_) fun _ _ e => e)
    obtain ⟨v, rfl, hq⟩ := z
    exact wpAny_pure hq
  · refine wpAny_bind (wpAny_pure ?_)
    simp only [Bool.false_eq_true, if_false]
    refine wpAny_bind (wpAny_mono one (fun r s' z => ?_) fun _ _ e => e)
    obtain ⟨v, rfl, hq⟩ := z
    exact wpAny_pure hq
/-- a op x, a of a built-in kind that declines, x an own instance -/
theorem right_K {L : Addr} {h₀ : Heap} {m : Str → Option Value} {a : Value} {T ida : String} {op : CmpOp} {Q : Value → Shared → Prop} (hu : A.units < cLine) (F : Fr h₀ L s.heap m) (X₀ : K.In h₀) (I : InstAt s.heap x ox C od) (ha : s.TypeIs a T)
    (hn : subIn K (.ref C) (.type T) = some false) (h1 : Slot T (cmpInfo op).2.1 ida) (hd : ∀ P : Value → Shared → Prop, P .notImplemented s → wpAny (model prog w) A (call (.builtin ida) [a, .ref x]) P E s)
    (h : wpAny (model prog w) A (tryCompare (.ref x) (cmpInfo op).2.2 a) (fun r s' => ∃ v, r = some v ∧ Q v s') E s) : wpAny (model prog w) A (richCompare op a (.ref x)) Q E s := by
  have X := X₀.keeps F.keep
  rcases hi : cmpInfo op with ⟨sym, f, r⟩
  rw [hi] at h1 h
  simp only [richCompare, hi, ha.oneThing_none]
  try with_reducible refine wpAny_holding ?_
  refine wpAny_bind (wpAny_cRoomFor hu ?_)
  refine wpAny_bind (wpAny_typeOf ha (wpAny_bind (I.type.here ?_)))
  have hne : (Value.type T != Value.ref C) = true := by
    rw [bne_iff_ne]
    exact fun z => nomatch z
  simp only [hne, if_true]
  refine wpAny_bind ((looks_subIn X hn).here ?_)
  simp only [Bool.false_eq_true, if_false, Bool.not_false, if_true]
  refine wpAny_bind (m := tryCompare a _ _) (wpAny_tryCompare_declines ha h1 (hd _ ⟨rfl, ?_⟩))
  refine wpAny_bind (m := tryCompare (.ref x) _ _) (wpAny_mono h (fun r s' z => ?_) fun _ _ e => e)
  obtain ⟨v, rfl, hq⟩ := z
  exact wpAny_pure hq
theorem try_eq {Q : Value → Shared → Prop} (X : K.In s.heap) (I : InstAt s.heap x ox C od) (hs : findIn K (.ref C) "__eq__" = some (some (.ref f))) (hf : isFn K (.ref f) = true)
    (h : wpAny (model prog w) A (call (.ref f) [.ref x, b]) (fun v s' => ∃ r, v = .bool r ∧ Q (.bool r) s') E s) : wpAny (model prog w) A (tryCompare (.ref x) "__eq__" b) (fun r s' => ∃ v, r = some v ∧ Q v s') E s := by
  unfold tryCompare
  refine wpAny_bind (ifBound_K X I hs hf (wpAny_mono h (fun v s' hv => ?_) fun _ _ e => e))
  obtain ⟨r, rfl, hq⟩ := hv
  exact wpAny_pure ⟨_, rfl, hq⟩
end
/-! what the built-in kinds' == answers to an own instance -/
section
variable {prog : Program} {w : World} {A : Around} {E : Value → Shared → Prop} {s : Shared} {K : PySem.W.Frag} {x C : Addr} {ox : Obj} {od : Option Obj} {P : Value → Shared → Prop}
theorem dec_none (h : P .notImplemented s) : wpAny (model prog w) A (call (.builtin "NoneType.__eq__") [.none, .ref x]) P E s := by
  refine wpAny_call_entry PySem.F.slot_NoneType_eq rfl PySem.F.entry_NoneType_eq ?_ (PySem.F.args_NoneType_eq_2 _ _)
  obtain ⟨hp, g, d, tk, os⟩ := s
  wp_walk
  exact ⟨_, rfl, h⟩
theorem dec_str {z : Str} {t : Tok} {dx : Addr} (hx : s.heap.get? x = some (instObj C dx)) (h : P .notImplemented s) : wpAny (model prog w) A (call (.builtin "str.__eq__") [.str z t, .ref x]) P E s := by
  refine wpAny_call_entry PySem.F.slot_str_eq (typeIs_str _ _ _) PySem.F.entry_str_eq ?_ (PySem.F.args_str_eq_2 _ _)
  obtain ⟨hp, g, d, tk, os⟩ := s
  wp_walk using AutoSeq1.wpAny_loadPart' hx
  exact ⟨_, rfl, h⟩
theorem dec_int {i : Int} {t : Tok} {dx : Addr} (hx : s.heap.get? x = some (instObj C dx)) (h : P .notImplemented s) : wpAny (model prog w) A (call (.builtin "int.__eq__") [.int i t, .ref x]) P E s := by
  refine wpAny_call_entry PySem.F.slot_int_eq (typeIs_int _ _ _) PySem.F.entry_int_eq ?_ (PySem.F.args_int_eq_2 _ _)
  obtain ⟨hp, g, d, tk, os⟩ := s
  wp_walk using AutoSeq1.wpAny_loadPart' hx
  exact ⟨_, rfl, h⟩
theorem dec_bool {b : Bool} {dx : Addr} (hx : s.heap.get? x = some (instObj C dx)) (h : P .notImplemented s) : wpAny (model prog w) A (call (.builtin "int.__eq__") [.bool b, .ref x]) P E s := by
  refine wpAny_call_entry PySem.F.slot_bool_eq rfl PySem.F.entry_int_eq ?_ (PySem.F.args_int_eq_2 _ _)
  obtain ⟨hp, g, d, tk, os⟩ := s
  wp_walk using AutoSeq1.wpAny_loadPart' hx
  exact ⟨_, rfl, h⟩
theorem dec_list {l : Addr} (hl : s.TypeIs (.ref l) "list") (X : K.In s.heap) (I : InstAt s.heap x ox C od) (hm : mroIn K C (.type "list") = some false) (h : P .notImplemented s) : wpAny (model prog w) A (call (.builtin "list.__eq__") [.ref l, .ref x]) P E s := by
  have hi : Looks (model prog w) s.heap (isInstance (.ref x) (.type "list")) false := I.type.andThen (looks_mroIn X hm)
  refine wpAny_call_entry PySem.F.slot_list_eq hl PySem.F.entry_list_eq ?_ (PySem.F.args_list_eq_2 _ _)
  refine wpAny_bind (m := slotArgs "__eq__" 1 _) (wpAny_pure ?_)
  refine wpAny_bind (m := isInstance (.ref x) (.type "list")) (hi.here ?_)
  exact wpAny_pure ⟨_, rfl, h⟩
theorem dec_tuple {l : Addr} (hl : s.TypeIs (.ref l) "tuple") (X : K.In s.heap) (I : InstAt s.heap x ox C od) (hm : mroIn K C (.type "tuple") = some false) (h : P .notImplemented s) : wpAny (model prog w) A (call (.builtin "tuple.__eq__") [.ref l, .ref x]) P E s := by
  have hi : Looks (model prog w) s.heap (isInstance (.ref x) (.type "tuple")) false := I.type.andThen (looks_mroIn X hm)
  refine wpAny_call_entry PySem.F.slot_tuple_eq hl PySem.F.entry_tuple_eq ?_ (PySem.F.args_tuple_eq_2 _ _)
  refine wpAny_bind (m := slotArgs "__eq__" 1 _) (wpAny_pure ?_)
  refine wpAny_bind (m := isInstance (.ref x) (.type "tuple")) (hi.here ?_)
  exact wpAny_pure ⟨_, rfl, h⟩
theorem dec_dict {l : Addr} (hl : s.TypeIs (.ref l) "dict") (X : K.In s.heap) (I : InstAt s.heap x ox C od) (hm : mroIn K C (.type "dict") = some false) (h : P .notImplemented s) : wpAny (model prog w) A (call (.builtin "dict.__eq__") [.ref l, .ref x]) P E s := by
  have hi : Looks (model prog w) s.heap (isInstance (.ref x) (.type "dict")) false := I.type.andThen (looks_mroIn X hm)
  refine wpAny_call_entry PySem.F.slot_dict_eq hl PySem.F.entry_dict_eq ?_ (PySem.F.args_dict_eq_2 _ _)
  refine wpAny_bind (m := Builtin.Dict.dictSlotArgs "__eq__" _) (wpAny_pure ?_)
  refine wpAny_bind (m := isInstance (.ref x) (.type "dict")) (hi.here ?_)
  exact wpAny_bind (wpAny_rule (wpAny_pure ⟨_, rfl, h⟩))
end
/-! in, == and != of lists and tuples whose items' == may make objects -/
section
open GQ PySem.SeqAt MeetsSeq MeetsSeq2 MeetsSeq3 SeqRoads2
open AutoSeq1 (wpAny_loadPart')
variable {prog : Program} {w : World} {A : Around} {R : Result → Shared → Prop} {E : Value → Shared → Prop}
theorem take_false {bs : List Bool} {i : Nat} {h : i < bs.length} (hp : (bs.take i).any id = false) (hb : bs[i] = false) : (bs.take (i + 1)).any id = false := by
  rw [List.take_succ_eq_append_getElem h, List.any_append, hp, List.any_cons, hb]
  rfl
theorem take_true {bs : List Bool} {i : Nat} (h : i < bs.length) (hb : bs[i] = true) : bs.any id = true := List.any_eq_true.mpr ⟨bs[i], List.getElem_mem h, hb⟩
theorem take_trueA {bs : List Bool} {i : Nat} {h : i < bs.length} (hp : (bs.take i).all id = true) (hb : bs[i] = true) : (bs.take (i + 1)).all id = true := by
  rw [List.take_succ_eq_append_getElem h, List.all_append, hp, List.all_cons, hb]
  rfl
theorem take_falseA {bs : List Bool} {i : Nat} (h : i < bs.length) (hb : bs[i] = false) : bs.all id = false := by
  rw [List.all_eq_false]
  exact ⟨bs[i], List.getElem_mem h, by rw [hb]; exact fun z => nomatch z⟩
/-- at each turn the list is read anew: bs.length items, the i-th compared with x is bs's i-th -/
def InI (prog : Program) (w : World) (A : Around) (E : Value → Shared → Prop) (l : Addr) (x : Value) (bs : List Bool) (I : Nat → Shared → Prop) : Prop :=
  ∀ i s, I i s → ∃ (items : Array Value) (n : Nat), s.heap.get? l = some { cls := .type "list", data := .seq items n } ∧ items.size = bs.length ∧
    ∀ (h1 : i < items.size) (h2 : i < bs.length), wpAny (model prog w) A.in1 (eqBool items[i] x) (fun r s' => r = bs[i] ∧ I (i + 1) s') E s
theorem in_loopG (l : Addr) (x : Value) (bs : List Bool) (I : Nat → Shared → Prop) (hl : InI prog w A (fun e s' => R (.error e) s') l x bs I)
    (fin : ∀ i s, I i s → R (.ok (.ret (.bool (bs.any id)))) s) (k : Nat) :
    ∀ i : Nat, bs.length - i = k → i ≤ bs.length → (bs.take i).any id = false → ∀ s, I i s →
      wpAny (model prog w) A.in1 (Builtin.«list.__contains__.loop» ⟨[.ref l, x, rawInt i], []⟩) (FinOf prog w A R) (fun e s' => R (.error e) s') s := by
  induction k with
  | zero =>
    intro i hk hi hp s h
    obtain ⟨items, n, hl1, hs1, _⟩ := hl _ _ h
    have hi' : i = bs.length := by omega
    have hR := fin i s h
    rw [hi', List.take_length] at hp
    rw [hp] at hR
    obtain ⟨hp, g, d, tk, os⟩ := s
    wp_walk using wpAny_loadPart' hl1
    have hi1 : items[((i : Nat) : Int).toNat]? = none := by simp; omega
    rw [hi1]
    wp_walk
    exact hR
  | succ k ih =>
    intro i hk hi hp s h
    obtain ⟨items, n, hl1, hs1, turn⟩ := hl _ _ h
    have hlt : i < items.size := by omega
    have hlt2 : i < bs.length := by omega
    have ht := turn hlt hlt2
    obtain ⟨hp', g, d, tk, os⟩ := s
    wp_walk using wpAny_loadPart' hl1
    have hi1 : items[((i : Nat) : Int).toNat]? = some items[i] := by simp [hlt]
    have hc : ((i : Int) + 1) = ((i + 1 : Nat) : Int) := by omega
    rw [hi1]
    refine wpAny_bind (wpAny_mono ht (fun r s2 h2 => ?_) fun _ _ x => x)
    obtain ⟨hr, h2⟩ := h2
    subst hr
    cases hb : bs[i] with
    | true =>
      have hR := fin _ _ h2
      rw [take_true hlt2 hb] at hR
      obtain ⟨hp2, g2, d2, tk2, os2⟩ := s2
      wp_walk
      exact hR
    | false =>
      have hrec := ih (i + 1) (by omega) (by omega) (take_false (h := hlt2) hp hb) s2 h2
      obtain ⟨hp2, g2, d2, tk2, os2⟩ := s2
      wp_walk
      rw [hc]
      exact ⟨plainId_quiet plain_contains_loop _, codeAny_builtin entry_contains_loop (by
        rw [Around.under_plainId plain_contains_loop _]
        exact hrec)⟩
theorem in_listG {l : Addr} {x : Value} {bs : List Bool} {I : Nat → Shared → Prop} {Q : Value → Shared → Prop} {s : Shared} (hl : InI prog w A E l x bs I) (fin : ∀ i s, I i s → Q (.bool (bs.any id)) s) (h : I 0 s) :
    wpAny (model prog w) A (compareOp .In x (.ref l)) Q E s := by
  obtain ⟨items, n, hl1, hs1, _⟩ := hl _ _ h
  have hT : s.TypeIs (.ref l) "list" := ⟨_, hl1, rfl⟩
  show wpAny _ A (do return .bool (← contains (.ref l) x)) Q E s
  refine wpAny_bind (wpAny_contains_slot hT F.slot_list_contains (call_here F.slot_list_contains hT F.entry_list_contains (F.args_list_contains_2 _ _) ?_))
  have hrec := in_loopG (A := A) (R := wants (fun v s' => wpAny (model prog w) A (truthy v) (fun b s'' => wpAny (model prog w) A (pure (Value.bool b)) Q E s'') E s') E) l x bs I hl (fun i s' q => wpAny_truthy_bool (wpAny_pure (fin i s' q))) _ 0 rfl (Nat.zero_le _) rfl s h
  obtain ⟨hp, g, d, tk, os⟩ := s
  wp_walk using wpAny_loadPart' hl1
  exact ⟨plainId_quiet plain_contains_loop _, codeAny_builtin entry_contains_loop (by
    rw [Around.under_plainId plain_contains_loop _]
    exact hrec)⟩
theorem in_tupG {l : Addr} {x : Value} {items : Array Value} {bs : List Bool} {I : Nat → Shared → Prop} {Q : Value → Shared → Prop} {s : Shared} (hl : s.heap.IsTuple l items) (hsz : items.size = bs.length)
    (turn : ∀ i (h1 : i < items.size) (h2 : i < bs.length) s, I i s → wpAny (model prog w) A.in1 (eqBool items[i] x) (fun r s' => r = bs[i] ∧ I (i + 1) s') E s)
    (fin : ∀ i s, I i s → Q (.bool (bs.any id)) s) (h : I 0 s) : wpAny (model prog w) A (compareOp .In x (.ref l)) Q E s := by
  obtain ⟨⟨cls, dd, data, sl⟩, ho, hc, n, hd⟩ := id hl
  simp only at hc hd
  subst hc hd
  have hT : s.TypeIs (.ref l) "tuple" := ⟨_, ho, rfl⟩
  show wpAny _ A (do return .bool (← contains (.ref l) x)) Q E s
  refine wpAny_bind (wpAny_contains_slot hT F.slot_tuple_contains (call_here F.slot_tuple_contains hT F.entry_tuple_contains (F.args_tuple_contains_2 _ _) ?_))
  have h0 := h
  have fin' : ∀ i s', I i s' → wpAny (model prog w) A (truthy (Value.bool (bs.any id))) (fun b s'' => wpAny (model prog w) A (pure (Value.bool b)) Q E s'') E s' := fun i s' q => wpAny_truthy_bool (wpAny_pure (fin i s' q))
  obtain ⟨hp, g, d, tk, os⟩ := s
  wp_walk using wpAny_loadPart' ho, wpAny_forIn_array _ (fun rest b s' => b.1 = none ∧ ∃ i, rest = items.toList.drop i ∧ i ≤ items.size ∧ (bs.take i).any id = false ∧ I i s') _
  case turn =>
    rintro y rest b s' ⟨hb', i, hz, hi, hp', hI⟩
    have hlt : i < items.toList.length := by
      rcases Nat.lt_or_ge i items.toList.length with h' | h'
      · exact h'
      · rw [List.drop_of_length_le h'] at hz; cases hz
    have h1 : i < items.size := by simpa using hlt
    have h2 : i < bs.length := hsz ▸ h1
    rw [List.drop_eq_getElem_cons hlt] at hz
    injection hz with hyx hrest
    have hy : y = items[i] := by simpa using hyx
    subst hy
    refine wpAny_bind (wpAny_mono (turn i h1 h2 s' hI) (fun r s2 q2 => ?_) fun _ _ x => x)
    obtain ⟨hr, q2⟩ := q2
    subst hr
    cases hb : bs[i] with
    | true =>
      have hR := fin' _ _ q2
      rw [take_true h2 hb] at hR
      wp_walk
      exact hR
    | false =>
      wp_walk
      exact ⟨rfl, i + 1, hrest, h1, take_false (h := h2) hp' hb, q2⟩
  case fin =>
    rintro ⟨b1, b2⟩ s' ⟨hb', i, hz, hi, hp', hI⟩
    simp only at hb'
    subst hb'
    have hge : items.size ≤ i := by
      rcases Nat.lt_or_ge i items.toList.length with h' | h'
      · rw [List.drop_eq_getElem_cons h'] at hz; cases hz
      · simpa using h'
    have hi' : i = bs.length := by omega
    have hR := fin' _ _ hI
    rw [hi', List.take_length] at hp'
    rw [hp'] at hR
    wp_walk
    exact hR
  case h =>
    exact ⟨rfl, 0, rfl, Nat.zero_le _, rfl, h0⟩
/-- two tuples, item by item: != -/
theorem tuple_neB (l b : Addr) (items items2 : Array Value) (n n2 : Nat) (dd dd2 : Option Addr) (sl sl2 : Array (Option Value)) (bs : List Bool) (hs1 : items.size = bs.length) (hs2 : items2.size = bs.length) (I : Nat → Shared → Prop)
    (turn : ∀ i (h1 : i < items.size) (h2 : i < items2.size) (h3 : i < bs.length) s, I i s → wpAny (model prog w) A.in1 (eqBool items[i] items2[i]) (fun r s' => r = bs[i] ∧ I (i + 1) s') (fun e s' => R (.error e) s') s)
    (fin : ∀ i s, I i s → R (.ok (.ret (.bool (!bs.all id)))) s) {s : Shared} (hl1 : s.heap.get? l = some { cls := .type "tuple", dict := dd, data := .seq items n, slots := sl }) (hb1 : s.heap.get? b = some { cls := .type "tuple", dict := dd2, data := .seq items2 n2, slots := sl2 }) (h : I 0 s) :
    wpAny (model prog w) A.in1 (Builtin.«tuple.__ne__» ⟨[.ref l, .ref b], []⟩) (FinOf prog w A R) (fun e s' => R (.error e) s') s := by
  have f2 := AutoSeq1.sub_tuple_tuple
  have hsz : items.size = items2.size := by omega
  have hZ : (items.toList.zip items2.toList).length = items.size := by simp [hsz]
  have h0 := h
  obtain ⟨hp, g, d, tk, os⟩ := s
  wp_walk using wpAny_loadPart' hl1, wpAny_loadPart' hb1, wpAny_forIn_list _ (fun rest b s' => b.1 = none ∧ ∃ i, rest = (items.toList.zip items2.toList).drop i ∧ i ≤ items.size ∧ (bs.take i).all id = true ∧ I i s') _
  case turn =>
    rintro ⟨y, x⟩ rest b s' ⟨hb', i, hz, hi, hp', hI⟩
    have hlt : i < (items.toList.zip items2.toList).length := by
      rcases Nat.lt_or_ge i (items.toList.zip items2.toList).length with h' | h'
      · exact h'
      · rw [List.drop_of_length_le h'] at hz; cases hz
    have h1 : i < items.size := hZ ▸ hlt
    have h2 : i < items2.size := hsz ▸ h1
    have h3 : i < bs.length := hs1 ▸ h1
    rw [List.drop_eq_getElem_cons hlt] at hz
    injection hz with hyx hrest
    have hy : y = items[i] := by have := congrArg Prod.fst hyx; simpa using this
    have hx : x = items2[i] := by have := congrArg Prod.snd hyx; simpa using this
    subst hy hx
    refine wpAny_bind (wpAny_mono (turn i h1 h2 h3 s' hI) (fun r s2 q2 => ?_) fun _ _ x => x)
    obtain ⟨hr, q2⟩ := q2
    subst hr
    cases hb : bs[i] with
    | false =>
      have hR := fin _ _ q2
      rw [take_falseA h3 hb] at hR
      wp_walk
      exact hR
    | true =>
      wp_walk
      exact ⟨rfl, i + 1, hrest, h1, take_trueA (h := h3) hp' hb, q2⟩
  case fin =>
    rintro ⟨b1, b2⟩ s' ⟨hb', i, hz, hi, hp', hI⟩
    simp only at hb'
    subst hb'
    have hge : items.size ≤ i := by
      rcases Nat.lt_or_ge i (items.toList.zip items2.toList).length with h' | h'
      · rw [List.drop_eq_getElem_cons h'] at hz; cases hz
      · exact hZ ▸ h'
    have hi' : i = bs.length := by omega
    have hR := fin _ _ hI
    rw [hi', List.take_length] at hp'
    rw [hp'] at hR
    wp_walk
    simpa [Builtin.Tuple.tupleCompareSizes, hsz] using hR
  case h =>
    exact ⟨rfl, 0, rfl, Nat.zero_le _, rfl, h0⟩
/-- two lists, item by item: == -/
def EqI (prog : Program) (w : World) (A : Around) (E : Value → Shared → Prop) (l b : Addr) (bs : List Bool) (I : Nat → Shared → Prop) : Prop :=
  ∀ i s, I i s → ∃ (items items2 : Array Value) (n n2 : Nat), s.heap.get? l = some { cls := .type "list", data := .seq items n } ∧ s.heap.get? b = some { cls := .type "list", data := .seq items2 n2 } ∧ items.size = bs.length ∧ items2.size = bs.length ∧
    ∀ (h1 : i < items.size) (h2 : i < items2.size) (h3 : i < bs.length), wpAny (model prog w) A.in1 (eqBool items[i] items2[i]) (fun r s' => r = bs[i] ∧ I (i + 1) s') E s
theorem eq_loopB (l b : Addr) (bs : List Bool) (I : Nat → Shared → Prop) (hl : EqI prog w A (fun e s' => R (.error e) s') l b bs I)
    (fin : ∀ i s, I i s → R (.ok (.ret (.bool (bs.all id)))) s) (k : Nat) :
    ∀ i : Nat, bs.length - i = k → i ≤ bs.length → (bs.take i).all id = true → ∀ s, I i s →
      wpAny (model prog w) A.in1 (Builtin.«list.__eq__.loop» ⟨[.ref l, .ref b, rawInt i, rawInt 2], []⟩) (FinOf prog w A R) (fun e s' => R (.error e) s') s := by
  induction k with
  | zero =>
    intro i hk hi hp s h
    obtain ⟨items, items2, n, n2, hl1, hb1, hs1, hs2, _⟩ := hl _ _ h
    have hi' : i = bs.length := by omega
    have hR := fin i s h
    rw [hi', List.take_length] at hp
    rw [hp] at hR
    obtain ⟨hp, g, d, tk, os⟩ := s
    wp_walk using wpAny_loadPart' hl1, wpAny_loadPart' hb1
    have hi1 : items[((i : Nat) : Int).toNat]? = none := by simp; omega
    have hi2 : items2[((i : Nat) : Int).toNat]? = none := by simp; omega
    rw [hi1, hi2]
    wp_walk using wpAny_loadPart' hl1, wpAny_loadPart' hb1
    show R (.ok (.ret (.bool (items.size == items2.size)))) _
    rw [hs1, hs2]
    simpa using hR
  | succ k ih =>
    intro i hk hi hp s h
    obtain ⟨items, items2, n, n2, hl1, hb1, hs1, hs2, turn⟩ := hl _ _ h
    have hlt : i < items.size := by omega
    have hlt2 : i < items2.size := by omega
    have hlt3 : i < bs.length := by omega
    have ht := turn hlt hlt2 hlt3
    obtain ⟨hp', g, d, tk, os⟩ := s
    wp_walk using wpAny_loadPart' hl1, wpAny_loadPart' hb1
    have hi1 : items[((i : Nat) : Int).toNat]? = some items[i] := by simp [hlt]
    have hi2 : items2[((i : Nat) : Int).toNat]? = some items2[i] := by simp [hlt2]
    have hc : ((i : Int) + 1) = ((i + 1 : Nat) : Int) := by omega
    rw [hi1, hi2]
    refine wpAny_bind (wpAny_mono ht (fun r s2 h2 => ?_) fun _ _ x => x)
    obtain ⟨hr, h2⟩ := h2
    subst hr
    cases hb : bs[i] with
    | true =>
      have hrec := ih (i + 1) (by omega) (by omega) (take_trueA (h := hlt3) hp hb) s2 h2
      obtain ⟨hp2, g2, d2, tk2, os2⟩ := s2
      wp_walk
      rw [hc]
      exact ⟨plainId_quiet plain_eq_loop _, codeAny_builtin entry_eq_loop (by
        rw [Around.under_plainId plain_eq_loop _]
        exact hrec)⟩
    | false =>
      have hR := fin _ _ h2
      rw [take_falseA hlt3 hb] at hR
      obtain ⟨xs, xs2, m, m2, hl2, hb2, hz1, hz2, _⟩ := hl _ _ h2
      obtain ⟨hp2, g2, d2, tk2, os2⟩ := s2
      have q1 : xs[((i : Nat) : Int).toNat]? = some xs[i] := by simp [show i < xs.size by omega]
      have q2 : xs2[((i : Nat) : Int).toNat]? = some xs2[i] := by simp [show i < xs2.size by omega]
      wp_walk using wpAny_loadPart' hl2, wpAny_loadPart' hb2
      rw [q1, q2]
      wp_walk
      exact hR
theorem list_eqB (l b : Addr) (bs : List Bool) (I : Nat → Shared → Prop) (hl : EqI prog w A (fun e s' => R (.error e) s') l b bs I)
    (fin : ∀ i s, I i s → R (.ok (.ret (.bool (bs.all id)))) s) {s : Shared} (h : I 0 s) :
    wpAny (model prog w) A.in1 (Builtin.«list.__eq__» ⟨[.ref l, .ref b], []⟩) (FinOf prog w A R) (fun e s' => R (.error e) s') s := by
  obtain ⟨items, items2, n, n2, hl1, hb1, hs1, hs2, _⟩ := hl _ _ h
  have hrec := eq_loopB (A := A) (R := R) l b bs I hl fin _ 0 rfl (Nat.zero_le _) rfl s h
  obtain ⟨hp, g, d, tk, os⟩ := s
  have f3 := AutoSeq1.sub_list_list
  have hne : ¬ (items.size != items2.size) = true := by simp [hs1, hs2]
  wp_walk using wpAny_loadPart' hl1, wpAny_loadPart' hb1
  exact ⟨plainId_quiet plain_eq_loop _, codeAny_builtin entry_eq_loop (by
    rw [Around.under_plainId plain_eq_loop _]
    exact hrec)⟩
end
end OwQ
/-! Own values over the layer: str, repr, f'{x}', len, ==, !=, in. -/
namespace L2
open PySem PySem.Spec PyProof.Rows _root_.Evl
def kindsT : List String := ["int", "bool", "str", "NoneType", "tuple", "list", "dict"]
def kindB (K : PySem.W.Frag) (C : Addr) (T : String) : Bool := PySem.W.notFirst K C (.type T) && (decide (PySem.W.subIn K (.ref C) (.type T) = some false) && (decide (PySem.W.mroIn K C (.type T) = some false) && decide (PySem.W.kitOne K (.type T) (.ref C) = some false)))
/-- what own values ask of the class at C -/
structure OwnC (K : PySem.W.Frag) (C : Addr) : Prop where
  is : IsC K C
  ne : PySem.W.findIn K (.ref C) "__ne__" = some (some (.builtin "object.__ne__"))
  fm : PySem.W.findIn K (.ref C) "__format__" = some (some (.builtin "object.__format__"))
  kd : ∀ T ∈ kindsT, kindB K C T = true
  nf : PySem.W.notFirst K C (.ref C) = true
def ownB (K : PySem.W.Frag) (x : Str) : Bool :=
  tyB K x && (He.eqO (PySem.W.findIn K (.ref (He.ga K x)) "__ne__") (some (some (.builtin "object.__ne__"))) && (He.eqO (PySem.W.findIn K (.ref (He.ga K x)) "__format__") (some (some (.builtin "object.__format__"))) && (kindsT.all (kindB K (He.ga K x)) && PySem.W.notFirst K (He.ga K x) (.ref (He.ga K x)))))
theorem ownB_ok {K : PySem.W.Frag} {x : Str} (h : ownB K x = true) : OwnC K (He.ga K x) := by
  obtain ⟨h1, h⟩ := He.ba h
  obtain ⟨h2, h⟩ := He.ba h
  obtain ⟨h3, h⟩ := He.ba h
  obtain ⟨h4, h5⟩ := He.ba h
  exact ⟨tyB_ok h1, He.eqO_ok h2, He.eqO_ok h3, List.all_eq_true.mp h4, h5⟩
theorem OwnC.first {K : PySem.W.Frag} {C : Addr} (c : OwnC K C) {T : String} (h : T ∈ kindsT) : PySem.W.notFirst K C (.type T) = true := (He.ba (c.kd T h)).1
theorem OwnC.sub {K : PySem.W.Frag} {C : Addr} (c : OwnC K C) {T : String} (h : T ∈ kindsT) : PySem.W.subIn K (.ref C) (.type T) = some false := of_decide_eq_true (He.ba (He.ba (c.kd T h)).2).1
theorem OwnC.mro {K : PySem.W.Frag} {C : Addr} (c : OwnC K C) {T : String} (h : T ∈ kindsT) : PySem.W.mroIn K C (.type T) = some false := of_decide_eq_true (He.ba (He.ba (He.ba (c.kd T h)).2).2).1
theorem OwnC.kit {K : PySem.W.Frag} {C : Addr} (c : OwnC K C) {T : String} (h : T ∈ kindsT) : PySem.W.kitOne K (.type T) (.ref C) = some false := of_decide_eq_true (He.ba (He.ba (He.ba (c.kd T h)).2).2).2
theorem FnOk.raw0 {P : Program} {w : World} {K : PySem.W.Frag} {mg : Str → Option Value} {base : Heap} {CX : CXT} {k : Nat} {f : Addr} {fd : FuncData} {ps : List Str} {sp : Sp} (F : FnOk P w K mg base CX k f fd ps sp) (hb : Binds K fd ps []) : FnR P w K mg base CX k f sp :=
  (FnOk.raw F hb .nil).imp fun vs H Q E h => by
    rw [List.append_nil]
    exact h
section
variable {X : Cx} {n : Nat} {C g : Addr} {sp : Sp}
/-- a text is told of an instance of the class at C -/
def rStrO (C : Addr) (sp : Sp) : List V → Hp → VK → Prop := fun xs H Q => ∃ a dx fs, xs = [V.ref a] ∧ H a = some (.ins C dx fs) ∧ sp [.ref a] H (fun v H' => ∃ z, v = .str z ∧ Q (.str z) H') E0
def rLenO (C : Addr) (sp : Sp) : List V → Hp → VK → Prop := fun xs H Q => ∃ a dx fs, xs = [V.ref a] ∧ H a = some (.ins C dx fs) ∧ sp [.ref a] H (fun v H' => ∃ i : Int, v = .int i ∧ 0 ≤ i ∧ i < 2 ^ 63 ∧ Q (.int i) H') E0
theorem pass00 : Passes CX0 X E0 := pass0
theorem call_strO (m : Meth X.K C "__str__" g) (F : FnR X.prog X.w X.K X.mg X.base CX0 n g sp) (hr : Room (n + 2) X.A) : CallR X (.type "str") (rStrO C sp) := by
  intro pins s σ H xs us Q I r h
  obtain ⟨a, dx, fs, rfl, ha, q⟩ := h
  obtain ⟨u, rfl, ru⟩ := r.one
  cases (show u = Value.ref a from ru)
  obtain ⟨mA, J, _⟩ := ins_get I.hok ha
  obtain ⟨od, J, _⟩ := J.look
  have hr2 : Room n X.A.in1.in1 := (show Room (n + 1) X.A.in1 from Room.in1 hr).in1
  refine PySem.W.kso_call hr2.units0 I.kIn J m.at_ m.fn (wpAny_mono (wpAny_call (SlX.run_at (us := [.ref a]) (ws := [.ref a]) F hr2 I.env0.in1.in1 pass0 I (.cons rfl .nil) q)) (fun w s' z => ?_) fun _ _ x => x)
  obtain ⟨z', H', I', rz, i, ei, qz⟩ := z
  subst ei
  obtain ⟨t, e⟩ := (show ∃ t, w = Value.str i t from rz)
  cases e
  exact ⟨.str i, H', I', ⟨t, rfl⟩, qz⟩
theorem call_reprO (m : Meth X.K C "__repr__" g) (F : FnR X.prog X.w X.K X.mg X.base CX0 n g sp) (hr : Room (n + 1) X.A) : CallR X (.builtin "repr") (rStrO C sp) := by
  intro pins s σ H xs us Q I r h
  obtain ⟨a, dx, fs, rfl, ha, q⟩ := h
  obtain ⟨u, rfl, ru⟩ := r.one
  cases (show u = Value.ref a from ru)
  obtain ⟨mA, J, _⟩ := ins_get I.hok ha
  obtain ⟨od, J, _⟩ := J.look
  obtain ⟨mm, hF⟩ := I.fr
  have hr2 : Room n X.A.in1 := Room.in1 hr
  refine PySem.W.repr_K hr2.units0 hF I.ok.mod.kin J m.at_ m.fn (wpAny_mono (wpAny_call (SlX.run_at (us := [.ref a]) (ws := [.ref a]) F hr2 I.env0.in1 pass0 I (.cons rfl .nil) q)) (fun w s' z => ?_) fun _ _ x => x)
  obtain ⟨z', H', I', rz, i, ei, qz⟩ := z
  subst ei
  obtain ⟨t, e⟩ := (show ∃ t, w = Value.str i t from rz)
  cases e
  exact ⟨.str i, H', I', ⟨t, rfl⟩, qz⟩
theorem call_lenO (m : Meth X.K C "__len__" g) (F : FnR X.prog X.w X.K X.mg X.base CX0 n g sp) (hr : Room (n + 1) X.A) : CallR X (.builtin "len") (rLenO C sp) := by
  intro pins s σ H xs us Q I r h
  obtain ⟨a, dx, fs, rfl, ha, q⟩ := h
  obtain ⟨u, rfl, ru⟩ := r.one
  cases (show u = Value.ref a from ru)
  obtain ⟨mA, J, _⟩ := ins_get I.hok ha
  obtain ⟨od, J, _⟩ := J.look
  obtain ⟨mm, hF⟩ := I.fr
  have hr2 : Room n X.A.in1 := Room.in1 hr
  refine PySem.W.len_K hF I.ok.mod.kin J m.at_ m.fn (wpAny_mono (wpAny_call (SlX.run_at (us := [.ref a]) (ws := [.ref a]) F hr2 I.env0.in1 pass0 I (.cons rfl .nil) q)) (fun w s' z => ?_) fun _ _ x => x)
  obtain ⟨z', H', I', rz, i, ei, i0, i1, qz⟩ := z
  subst ei
  obtain ⟨t, e⟩ := (show ∃ t, w = Value.int i t from rz)
  cases e
  exact ⟨⟨i0, i1⟩, .int i, H', I'.tok _, ⟨_, rfl⟩, qz⟩
/-- {x}, x an instance -/
def tFmtO (C : Addr) (sp : Sp) (te : TE) : TE := fun σ H Q => te σ H fun x H1 => rStrO C sp [x] H1 Q
theorem pe_fmtO {e : Expr} {te : TE} {pos : Pos} (c : OwnC X.K C) (m : Meth X.K C "__str__" g) (F : FnR X.prog X.w X.K X.mg X.base CX0 n g sp) (hr : Room (n + 1) X.A) (he : PE X e te) : PE X (.FormattedValue e (-1) none pos) (tFmtO C sp te) := by
  refine ⟨fun pins s σ H Q I h => ?_⟩
  refine wpAny_FormattedValue_plain (thn (he.run pins s σ H _ I h) fun v s1 hv => ?_)
  obtain ⟨x, H1, I1, r1, a, dx, fs, ex, ha, q⟩ := hv
  cases ex
  cases (show v = Value.ref a from r1)
  obtain ⟨mA, J, _⟩ := ins_get I1.hok ha
  obtain ⟨od, J, _⟩ := J.look
  have hr2 : Room n X.A.in1 := Room.in1 hr
  have I2 := I1.tok (s1.toks + 1)
  refine PySem.W.kfo_fieldS hr2.units0 I1.kIn J c.fm c.is.hm m.at_ m.fn (wpAny_mono (wpAny_call (SlX.run_at (us := [.ref a]) (ws := [.ref a]) F hr2 I2.env0.in1 pass0 I2 (.cons rfl .nil) q)) (fun w s' z => ?_) fun _ _ x => x)
  obtain ⟨z', H', I', rz, i, ei, qz⟩ := z
  subst ei
  obtain ⟨t, e⟩ := (show ∃ t, w = Value.str i t from rz)
  cases e
  exact ⟨.str i, H', I', ⟨t, rfl⟩, qz⟩
end
end L2
/-! == and != by an own __eq__, with either answer, against things of the built-in kinds too. -/
namespace L2
open PySem PySem.Spec PyProof.Rows _root_.Evl
abbrev EqR := V → V → Hp → Bool → Prop
/-- a thing of a built-in kind -/
inductive Kd (H : Hp) : V → String → Prop where
  | non : Kd H .non "NoneType"
  | bl (b : Bool) : Kd H (.bl b) "bool"
  | int (i : Int) : Kd H (.int i) "int"
  | str (z : Str) : Kd H (.str z) "str"
  | lst {a : Addr} {xs : List V} (h : H a = some (.lst xs)) : Kd H (.ref a) "list"
  | tup {a : Addr} {xs : List V} (h : H a = some (.tup xs)) : Kd H (.ref a) "tuple"
  | dK {a : Addr} {kvs : List (Key × V)} (h : H a = some (.dK kvs)) : Kd H (.ref a) "dict"
theorem Kd.tyx {K : PySem.W.Frag} {H : Hp} {x : V} {T : String} (h : Kd H x T) : TyX K H x (.type T) := by
  cases h with
  | non => exact .base .non
  | bl b => exact .base (.bl b)
  | int i => exact .base (.int i)
  | str z => exact .base (.str z)
  | lst h => exact .base (.lst h)
  | tup h => exact .base (.tup h)
  | dK h => exact .base (.dK h)
theorem Kd.mem {H : Hp} {x : V} {T : String} (h : Kd H x T) : T ∈ kindsT := by
  cases h <;> simp [kindsT]
theorem Kd.ex {H H' : Hp} {x : V} {T : String} (h : Kd H x T) (e : Ex H H') : Kd H' x T := by
  cases h with
  | non => exact .non
  | bl b => exact .bl b
  | int i => exact .int i
  | str z => exact .str z
  | lst h => exact .lst (e _ _ h)
  | tup h => exact .tup (e _ _ h)
  | dK h => exact .dK (e _ _ h)
def RcE (X : Cx) (n : Nat) (op : CmpOp) (D : EqR) : Prop :=
  ∀ (A : Around) (pins : List (Addr × Obj)) (s : Shared) (σ : St) (H : Hp) (x y : V) (u v : Value) (b : Bool), Sub X n A → Inv X pins σ H s → RelV x u → RelV y v → D x y H b →
    wpAny (model X.prog X.w) A (richCompare op u v) (fun r s' => r = .bool b ∧ ∃ H', Inv X pins σ H' s' ∧ Ex H H') X.xe s
def EqE (X : Cx) (n : Nat) (D : EqR) : Prop :=
  ∀ (A : Around) (pins : List (Addr × Obj)) (s : Shared) (σ : St) (H : Hp) (x y : V) (u v : Value) (b : Bool), Sub X n A → Inv X pins σ H s → RelV x u → RelV y v → D x y H b →
    wpAny (model X.prog X.w) A (eqBool u v) (fun r s' => r = b ∧ ∃ H', Inv X pins σ H' s' ∧ Ex H H') X.xe s
def MonE (D : EqR) : Prop := ∀ x y H H' b, Ex H H' → D x y H b → D x y H' b
/-- what the own == promises: R tells its answer -/
def spEqE (R : Addr → V → Hp → Bool → Prop) : Sp := fun vs H Q _ => ∃ a y b, vs = [.ref a, y] ∧ R a y H b ∧ ∀ H', Ex H H' → Q (.bl b) H'
/-- x an instance, y whatever isn't asked first -/
def DOwn (K : PySem.W.Frag) (C : Addr) (R : Addr → V → Hp → Bool → Prop) : EqR := fun x y H b => ∃ a dx fs t, x = .ref a ∧ H a = some (.ins C dx fs) ∧ (∀ H1, Ex H H1 → TyX K H1 y t) ∧ PySem.W.notFirst K C t = true ∧ R a y H b
/-- x of a built-in kind, y an instance -/
def DOff (C : Addr) (R : Addr → V → Hp → Bool → Prop) : EqR := fun x y H b => ∃ a dx fs T, y = .ref a ∧ H a = some (.ins C dx fs) ∧ Kd H x T ∧ R a x H b
section
variable {X : Cx} {n m : Nat} {C g : Addr} {R : Addr → V → Hp → Bool → Prop} {D D' : EqR} {op : CmpOp}
theorem RcE.or (h : RcE X n op D) (h' : RcE X n op D') : RcE X n op (fun x y H b => D x y H b ∨ D' x y H b) := fun A pins s σ H x y u v b sb I rx ry d => d.elim (h A pins s σ H x y u v b sb I rx ry) (h' A pins s σ H x y u v b sb I rx ry)
theorem EqE.or (h : EqE X n D) (h' : EqE X n D') : EqE X n (fun x y H b => D x y H b ∨ D' x y H b) := fun A pins s σ H x y u v b sb I rx ry d => d.elim (h A pins s σ H x y u v b sb I rx ry) (h' A pins s σ H x y u v b sb I rx ry)
theorem RcE.mono (h : RcE X n op D) (hn : n ≤ m) : RcE X m op D := fun A pins s σ H x y u v b sb => h A pins s σ H x y u v b (sb.mono hn)
theorem EqE.mono (h : EqE X n D) (hn : n ≤ m) : EqE X m D := fun A pins s σ H x y u v b sb => h A pins s σ H x y u v b (sb.mono hn)
/-- the own == runs somewhere below the running body -/
theorem own_runs {A : Around} {pins : List (Addr × Obj)} {s : Shared} {σ : St} {H : Hp} {a : Addr} {y : V} {v : Value} {b : Bool} (F : FnR X.prog X.w X.K X.mg X.base CX0 n g (spEqE R)) (sb : Sub X n A) (I : Inv X pins σ H s) (ry : RelV y v) (hr : R a y H b) :
    wpAny (model X.prog X.w) A (call (.ref g) [.ref a, v]) (fun r s' => r = .bool b ∧ ∃ H', Inv X pins σ H' s' ∧ Ex H H') X.xe s := by
  have e0 : Env0 X.prog X.w X.K X.mg X.base A X.stack s H := by
    have e := I.env0
    exact ⟨by rw [sb.fr]; exact e.frames, e.mod, e.bs, e.bsz, e.funs, e.frf, e.hok, e.bare⟩
  refine wpAny_mono (wpAny_call (SlX.run_at (us := [.ref a, v]) (ws := [.ref a, y]) (Q := fun z H' => z = .bl b ∧ Ex H H') F sb.room e0 pass0 I (.cons rfl (.cons ry .nil)) ⟨a, y, b, rfl, hr, fun H' e => ⟨rfl, e⟩⟩)) (fun r s' z => ?_) fun _ _ x => x
  obtain ⟨z', H', I', rz, ez, ex⟩ := z
  subst ez
  cases (show r = Value.bool b from rz)
  exact ⟨rfl, H', I', ex⟩
theorem tyLooks {pins : List (Addr × Obj)} {s : Shared} {σ : St} {H : Hp} {y : V} {v t : Value} (I : Inv X pins σ H s) (ry : RelV y v) (ty : TyX X.K H y t) : PySem.W.Looks (model X.prog X.w) s.heap (typeOf v) t := by
  obtain ⟨P, Z, p, hx⟩ := kit_of I ry ty
  exact Z.ty _ _ I.kIn p
theorem rcE_own (m : Meth X.K C "__eq__" g) (F : FnR X.prog X.w X.K X.mg X.base CX0 n g (spEqE R)) : RcE X n .Eq (DOwn X.K C R) := by
  intro A pins s σ H x y u v b sb I rx ry d
  obtain ⟨a, dx, fs, t, rfl, ha, ty, hn, hr⟩ := d
  cases (show u = Value.ref a from rx)
  obtain ⟨mA, J, _⟩ := ins_get I.hok ha
  obtain ⟨od, J, _⟩ := J.look
  obtain ⟨mm, hF⟩ := I.fr
  refine PySem.W.cmp_K (op := .Eq) (tb := t) sb.room.units0 hF I.ok.mod.kin J (tyLooks I ry (ty H (Ex.refl _))) hn m.at_ m.fn ?_
  refine wpAny_mono (own_runs F sb I ry hr) (fun r s' z => ?_) fun _ _ x => x
  obtain ⟨rfl, z⟩ := z
  exact ⟨rfl, z⟩
theorem neE_own (c : OwnC X.K C) (m : Meth X.K C "__eq__" g) (F : FnR X.prog X.w X.K X.mg X.base CX0 n g (spEqE R)) : RcE X (n + 1) .NotEq (fun x y H b => DOwn X.K C R x y H (!b)) := by
  intro A pins s σ H x y u v b sb I rx ry d
  obtain ⟨a, dx, fs, t, rfl, ha, ty, hn, hr⟩ := d
  cases (show u = Value.ref a from rx)
  obtain ⟨mA, J, _⟩ := ins_get I.hok ha
  obtain ⟨od, J, _⟩ := J.look
  obtain ⟨mm, hF⟩ := I.fr
  refine OwQ.ne_K (tb := t) sb.in1.room.units0 hF I.ok.mod.kin J (tyLooks I ry (ty H (Ex.refl _))) hn c.ne c.is.hm m.at_ m.fn ?_
  refine wpAny_mono (own_runs F sb.in1 I ry hr) (fun r s' z => ?_) fun _ _ x => x
  obtain ⟨rfl, z⟩ := z
  exact ⟨!b, rfl, by rw [Bool.not_not], z⟩
theorem rcE_off (c : OwnC X.K C) (m : Meth X.K C "__eq__" g) (F : FnR X.prog X.w X.K X.mg X.base CX0 n g (spEqE R)) : RcE X n .Eq (DOff C R) := by
  intro A pins s σ H x y u v b sb I rx ry d
  obtain ⟨a, dx, fs, T, rfl, ha, kd, hr⟩ := d
  cases (show v = Value.ref a from ry)
  obtain ⟨mA, J0, _⟩ := ins_get I.hok ha
  have hx := J0.obj
  obtain ⟨od, J, _⟩ := J0.look
  obtain ⟨mm, hF⟩ := I.fr
  have back : wpAny (model X.prog X.w) A (tryCompare (.ref a) (cmpInfo .Eq).2.2 u) (fun r s' => ∃ v, r = some v ∧ v = .bool b ∧ ∃ H', Inv X pins σ H' s' ∧ Ex H H') X.xe s := by
    refine OwQ.try_eq (Q := fun v s' => v = .bool b ∧ ∃ H', Inv X pins σ H' s' ∧ Ex H H') I.kIn J m.at_ m.fn (wpAny_mono (own_runs F sb I rx hr) (fun r s' z => ?_) fun _ _ x => x)
    obtain ⟨rfl, z⟩ := z
    exact ⟨b, rfl, rfl, z⟩
  have hm := kd.mem
  cases kd with
  | non =>
    cases (show u = Value.none from rx)
    exact OwQ.right_K (op := .Eq) sb.room.units0 hF I.ok.mod.kin J rfl (c.sub hm) PySem.F.slot_NoneType_eq (fun P h => OwQ.dec_none h) back
  | bl y =>
    cases (show u = Value.bool y from rx)
    exact OwQ.right_K (op := .Eq) sb.room.units0 hF I.ok.mod.kin J rfl (c.sub hm) PySem.F.slot_bool_eq (fun P h => OwQ.dec_bool hx h) back
  | int i =>
    obtain ⟨t, e⟩ := (show ∃ t, u = Value.int i t from rx)
    cases e
    exact OwQ.right_K (op := .Eq) sb.room.units0 hF I.ok.mod.kin J (typeIs_int _ _ _) (c.sub hm) PySem.F.slot_int_eq (fun P h => OwQ.dec_int hx h) back
  | str z =>
    obtain ⟨t, e⟩ := (show ∃ t, u = Value.str z t from rx)
    cases e
    exact OwQ.right_K (op := .Eq) sb.room.units0 hF I.ok.mod.kin J (typeIs_str _ _ _) (c.sub hm) PySem.F.slot_str_eq (fun P h => OwQ.dec_str hx h) back
  | @lst l xs ea =>
    cases (show u = Value.ref l from rx)
    obtain ⟨_, _, k, _, h1⟩ := (show ObjOk X.prog X.w H s.heap l (.lst xs) from I.hok l _ ea)
    have hT : s.TypeIs (.ref l) "list" := ⟨_, h1, rfl⟩
    exact OwQ.right_K (op := .Eq) sb.room.units0 hF I.ok.mod.kin J hT (c.sub hm) PySem.F.slot_list_eq (fun P h => OwQ.dec_list hT I.kIn J (c.mro hm) h) back
  | @tup l xs ea =>
    cases (show u = Value.ref l from rx)
    obtain ⟨_, _, _, o, h1, h2, _⟩ := (show ObjOk X.prog X.w H s.heap l (.tup xs) from I.hok l _ ea)
    have hT : s.TypeIs (.ref l) "tuple" := ⟨_, h1, h2⟩
    exact OwQ.right_K (op := .Eq) sb.room.units0 hF I.ok.mod.kin J hT (c.sub hm) PySem.F.slot_tuple_eq (fun P h => OwQ.dec_tuple hT I.kIn J (c.mro hm) h) back
  | @dK l kvs ea =>
    cases (show u = Value.ref l from rx)
    obtain ⟨_, _, vs, _, o, es, ep, h1, h2, _⟩ := (show ObjOk X.prog X.w H s.heap l (.dK kvs) from I.hok l _ ea)
    have hT : s.TypeIs (.ref l) "dict" := ⟨_, h1, h2.1⟩
    exact OwQ.right_K (op := .Eq) sb.room.units0 hF I.ok.mod.kin J hT (c.sub hm) PySem.F.slot_dict_eq (fun P h => OwQ.dec_dict hT I.kIn J (c.mro hm) h) back
end
end L2
/-! == inside lists and tuples. -/
namespace L2
open PySem PySem.Spec PyProof.Rows _root_.Evl
section
variable {X : Cx} {n : Nat} {C g : Addr} {R : Addr → V → Hp → Bool → Prop} {D D' : EqR}
theorem eqB_of {A : Around} {s : Shared} {E : Value → Shared → Prop} {u v : Value} {Q : Bool → Shared → Prop} (hne : u ≠ v) (hf : ∀ x t, u ≠ .float x t) (h : wpAny (model X.prog X.w) A (richCompare .Eq u v) (fun r s' => ∃ b, r = .bool b ∧ Q b s') E s) : wpAny (model X.prog X.w) A (eqBool u v) Q E s := by
  unfold eqBool
  refine wpAny_holding ?_
  refine wpAny_ite_split (fun hab => absurd (eq_of_beq hab) hne) (fun _ => ?_)
  have fin : wpAny (model X.prog X.w) A (richCompare .Eq u v >>= truthOfDropped) Q E s := by
    refine wpAny_bind (wpAny_mono h (fun r s' hv => ?_) fun _ _ x => x)
    obtain ⟨b, rfl, q⟩ := hv
    exact wpAny_truthy_bool q
  cases u with
  | float x t => exact absurd rfl (hf x t)
  | _ => first | exact fin | simpa using fin
theorem Kd.rel {H : Hp} {x : V} {T : String} {u : Value} (h : Kd H x T) (r : RelV x u) : (∀ y t, u ≠ .float y t) := by
  intro y t e
  subst e
  cases h with
  | non => cases (show Value.float y t = Value.none from r)
  | bl b => cases (show Value.float y t = Value.bool b from r)
  | int i => obtain ⟨k, e⟩ := (show ∃ k, Value.float y t = Value.int i k from r); cases e
  | str z => obtain ⟨k, e⟩ := (show ∃ k, Value.float y t = Value.str z k from r); cases e
  | @lst a xs h => cases (show Value.float y t = Value.ref a from r)
  | @tup a xs h => cases (show Value.float y t = Value.ref a from r)
  | @dK a xs h => cases (show Value.float y t = Value.ref a from r)
theorem Kd.ne_ins {H : Hp} {x : V} {T : String} {u : Value} {a dx : Addr} {fs : List (Str × V)} (h : Kd H x T) (r : RelV x u) (ha : H a = some (.ins C dx fs)) : u ≠ .ref a := by
  intro e
  subst e
  cases h with
  | non => cases (show Value.ref a = Value.none from r)
  | bl b => cases (show Value.ref a = Value.bool b from r)
  | int i => obtain ⟨k, e⟩ := (show ∃ k, Value.ref a = Value.int i k from r); cases e
  | str z => obtain ⟨k, e⟩ := (show ∃ k, Value.ref a = Value.str z k from r); cases e
  | @lst l xs h =>
    cases (show Value.ref a = Value.ref l from r)
    rw [ha] at h
    cases h
  | @tup l xs h =>
    cases (show Value.ref a = Value.ref l from r)
    rw [ha] at h
    cases h
  | @dK l xs h =>
    cases (show Value.ref a = Value.ref l from r)
    rw [ha] at h
    cases h
theorem eqE_own (m : Meth X.K C "__eq__" g) (F : FnR X.prog X.w X.K X.mg X.base CX0 n g (spEqE R)) (hself : ∀ a H b, R a (.ref a) H b → b = true) : EqE X n (DOwn X.K C R) := by
  intro A pins s σ H x y u v b sb I rx ry d
  have d0 := d
  obtain ⟨a, dx, fs, t, rfl, ha, ty, hn, hr⟩ := d
  cases (show u = Value.ref a from rx)
  by_cases hv : v = .ref a
  · subst hv
    have hy : y = .ref a := by
      cases y with
      | ref z => cases (show Value.ref a = Value.ref z from ry); rfl
      | non => cases (show Value.ref a = Value.none from ry)
      | bl b => cases (show Value.ref a = Value.bool b from ry)
      | int i => obtain ⟨k, e⟩ := (show ∃ k, Value.ref a = Value.int i k from ry); cases e
      | str z => obtain ⟨k, e⟩ := (show ∃ k, Value.ref a = Value.str z k from ry); cases e
      | byt z => obtain ⟨k, e⟩ := (show ∃ k, Value.ref a = Value.bytes z k from ry); cases e
      | flt z => obtain ⟨k, e⟩ := (show ∃ k, Value.ref a = Value.float z k from ry); cases e
      | ty z => cases (show Value.ref a = Value.type z from ry)
    subst hy
    cases hself _ _ _ hr
    exact SeqAt.EqAt.same (A := A) (s := s) (.ref a) X.prog X.w X.xe _ ⟨rfl, H, I, Ex.refl _⟩
  · refine eqB_of (fun z => hv z.symm) (fun _ _ z => nomatch z) (wpAny_mono (rcE_own m F A pins s σ H _ _ _ _ _ sb I rx ry d0) (fun r s' q => ?_) fun _ _ x => x)
    exact ⟨b, q.1, rfl, q.2⟩
theorem eqE_off (c : OwnC X.K C) (m : Meth X.K C "__eq__" g) (F : FnR X.prog X.w X.K X.mg X.base CX0 n g (spEqE R)) : EqE X n (DOff C R) := by
  intro A pins s σ H x y u v b sb I rx ry d
  have d0 := d
  obtain ⟨a, dx, fs, T, rfl, ha, kd, hr⟩ := d
  cases (show v = Value.ref a from ry)
  refine eqB_of (kd.ne_ins rx ha) (kd.rel rx) (wpAny_mono (rcE_off c m F A pins s σ H _ _ _ _ _ sb I rx ry d0) (fun r s' q => ?_) fun _ _ x => x)
  exact ⟨b, q.1, rfl, q.2⟩
/-- flat values -/
def DFl : EqR := fun x y _ b => flatV x = true ∧ flatV y = true ∧ eqV x y = b
theorem eqE_flat : EqE X n DFl := by
  intro A pins s σ H x y u v b sb I rx ry d
  obtain ⟨fx, fy, e⟩ := d
  have q := eqAt_V (A := A) (s := s) rx ry fx fy
  rw [e] at q
  exact q X.prog X.w X.xe _ ⟨rfl, H, I, Ex.refl _⟩
/-- item by item, with answers -/
structure PrE (D : EqR) (xs ys : List V) (H : Hp) (bs : List Bool) : Prop where
  lx : xs.length = bs.length
  ly : ys.length = bs.length
  at_ : ∀ (i : Nat) x y b, xs[i]? = some x → ys[i]? = some y → bs[i]? = some b → D x y H b
theorem PrE.nil {H : Hp} : PrE D [] [] H [] := ⟨rfl, rfl, fun i x y b h => by simp at h⟩
theorem PrE.cons {x y : V} {xs ys : List V} {H : Hp} {b : Bool} {bs : List Bool} (h : D x y H b) (p : PrE D xs ys H bs) : PrE D (x :: xs) (y :: ys) H (b :: bs) := by
  refine ⟨by rw [List.length_cons, List.length_cons, p.lx], by rw [List.length_cons, List.length_cons, p.ly], fun i u v c h1 h2 h3 => ?_⟩
  cases i with
  | zero =>
    simp at h1 h2 h3
    subst h1; subst h2; subst h3
    exact h
  | succ i =>
    simp at h1 h2 h3
    exact p.at_ i u v c h1 h2 h3
def LpI (X : Cx) (pins : List (Addr × Obj)) (σ : St) (H : Hp) (s' : Shared) : Prop := ∃ H', Inv X pins σ H' s' ∧ Ex H H'
theorem turnE (hD : MonE D) (h : EqE X n D) {A : Around} (sb : Sub X (n + 1) A) {pins : List (Addr × Obj)} {σ : St} {H : Hp} {xs ys : List V} {its its2 : List Value} {bs : List Bool} (p : PrE D xs ys H bs) (r : Vals xs its) (r2 : Vals ys its2)
    (i : Nat) (h1 : i < its.toArray.size) (h2 : i < its2.toArray.size) (h3 : i < bs.length) (s' : Shared) (l : LpI X pins σ H s') :
    wpAny (model X.prog X.w) A.in1 (eqBool its.toArray[i] its2.toArray[i]) (fun r s2 => r = bs[i] ∧ LpI X pins σ H s2) X.xe s' := by
  obtain ⟨H1, I1, e1⟩ := l
  have g1 : its[i]? = some its.toArray[i] := by
    have h1' : i < its.length := by simpa using h1
    rw [List.getElem?_eq_getElem h1'] <;> simp
  have g2 : its2[i]? = some its2.toArray[i] := by
    have h2' : i < its2.length := by simpa using h2
    rw [List.getElem?_eq_getElem h2'] <;> simp
  have k1 : i < xs.length := by rw [r.length]; simpa using h1
  have k2 : i < ys.length := by rw [r2.length]; simpa using h2
  obtain ⟨u, hu, ru⟩ := r.get (List.getElem?_eq_getElem k1)
  obtain ⟨v, hv, rv⟩ := r2.get (List.getElem?_eq_getElem k2)
  rw [g1] at hu
  rw [g2] at hv
  rw [Option.some.inj hu, Option.some.inj hv]
  refine wpAny_mono (h A.in1 pins s' σ H1 _ _ u v bs[i] sb.in1 I1 ru rv (hD _ _ _ _ _ e1 (p.at_ i _ _ _ (List.getElem?_eq_getElem k1) (List.getElem?_eq_getElem k2) (List.getElem?_eq_getElem h3)))) (fun r s2 q => ?_) fun _ _ x => x
  obtain ⟨hr, H2, I2, e2⟩ := q
  exact ⟨hr, H2, I2, e1.trans e2⟩
/-- x in [..], the items' == telling -/
def rInE (D : EqR) : R2 := fun x y H Q => ∃ p xs bs, y = .ref p ∧ H p = some (.lst xs) ∧ PrE D xs (List.replicate bs.length x) H bs ∧ ∀ H', Ex H H' → Q (.bl (bs.any id)) H'
def rInTE (K : PySem.W.Frag) (D : EqR) : R2 := fun x y H Q => ∃ p xs bs, y = .ref p ∧ SqT K H p xs ∧ PrE D xs (List.replicate bs.length x) H bs ∧ ∀ H', Ex H H' → Q (.bl (bs.any id)) H'
theorem reps {x : V} {u : Value} (r : RelV x u) : ∀ k : Nat, Vals (List.replicate k x) (List.replicate k u)
  | 0 => .nil
  | k + 1 => .cons r (reps r k)
theorem op_inE (hD : MonE D) (h : EqE X n D) (hr : Room (n + 1) X.A) : OpR X (compareOp .In) (rInE D) := by
  intro pins s σ H x y v u Q I rx ry hq
  obtain ⟨p, xs, bs, rfl, hp, pe, q⟩ := hq
  cases (show u = Value.ref p from ry)
  refine OwQ.in_listG (bs := bs) (I := fun _ s' => LpI X pins σ H s') (fun i s' l => ?_) (fun i s' l => ?_) ⟨H, I, Ex.refl _⟩
  · obtain ⟨H1, I1, e1⟩ := id l
    obtain ⟨z, its, k, r, e⟩ := (show ObjOk X.prog X.w H1 s'.heap p (.lst xs) from I1.hok p _ (e1 _ _ hp))
    have hz : its.length = bs.length := by rw [← r.length]; exact pe.lx
    refine ⟨its.toArray, k, e, by rw [List.size_toArray]; exact hz, fun h1 h2 => ?_⟩
    have t := turnE (A := X.A) hD h ⟨hr, rfl⟩ pe r (reps rx bs.length) i h1 (by simpa using h2) h2 s' l
    simpa using t
  · obtain ⟨H1, I1, e1⟩ := l
    exact ⟨.bl _, H1, I1, rfl, q H1 e1⟩
theorem op_inTE (hD : MonE D) (h : EqE X n D) (hr : Room (n + 1) X.A) : OpR X (compareOp .In) (rInTE X.K D) := by
  intro pins s σ H x y v u Q I rx ry hq
  obtain ⟨p, xs, bs, rfl, hp, pe, q⟩ := hq
  cases (show u = Value.ref p from ry)
  obtain ⟨its, r, e, z⟩ := I.tuple hp
  have hz : its.length = bs.length := by rw [← r.length]; exact pe.lx
  refine OwQ.in_tupG (bs := bs) (I := fun _ s' => LpI X pins σ H s') e (by rw [List.size_toArray]; exact hz) (fun i h1 h2 s' l => ?_) (fun i s' l => ?_) ⟨H, I, Ex.refl _⟩
  · have t := turnE (A := X.A) hD h ⟨hr, rfl⟩ pe r (reps rx bs.length) i h1 (by simpa using h2) h2 s' l
    simpa using t
  · obtain ⟨H1, I1, e1⟩ := l
    exact ⟨.bl _, H1, I1, rfl, q H1 e1⟩
/-- x == y, x != y as expressions -/
def rCmpE (D : EqR) : R2 := fun x y H Q => ∃ b, D x y H b ∧ ∀ H', Ex H H' → Q (.bl b) H'
theorem op_rcE {op : CmpOp} (hop : ∀ a b, compareOp op a b = richCompare op a b) (h : RcE X n op D) (hr : Room n X.A) : OpR X (compareOp op) (rCmpE D) := by
  intro pins s σ H x y v u Q I rx ry hq
  obtain ⟨b, d, q⟩ := hq
  rw [hop]
  refine wpAny_mono (h X.A pins s σ H x y v u b ⟨hr, rfl⟩ I rx ry d) (fun r s' z => ?_) fun _ _ x => x
  obtain ⟨hr', H', I', e⟩ := z
  subst hr'
  exact ⟨.bl b, H', I', rfl, q H' e⟩
theorem op_eqE (h : RcE X n .Eq D) (hr : Room n X.A) : OpR X (compareOp .Eq) (rCmpE D) := op_rcE (fun _ _ => rfl) h hr
theorem op_neE (h : RcE X n .NotEq D) (hr : Room n X.A) : OpR X (compareOp .NotEq) (rCmpE D) := op_rcE (fun _ _ => rfl) h hr
def DLs (D : EqR) : EqR := fun x y H b => ∃ p q xs ys bs, x = .ref p ∧ y = .ref q ∧ H p = some (.lst xs) ∧ H q = some (.lst ys) ∧ PrE D xs ys H bs ∧ b = bs.all id
def DTp (K : PySem.W.Frag) (D : EqR) : EqR := fun x y H b => ∃ p q xs ys bs, x = .ref p ∧ y = .ref q ∧ SqT K H p xs ∧ SqT K H q ys ∧ PrE D xs ys H bs ∧ b = !bs.all id
theorem rcE_list (hD : MonE D) (h : EqE X n D) : RcE X (n + 1) .Eq (DLs D) := by
  intro A pins s σ H x y u v b sb I rx ry d
  obtain ⟨p, q, xs, ys, bs, rfl, rfl, hp, hq, pe, rfl⟩ := d
  cases (show u = Value.ref p from rx)
  cases (show v = Value.ref q from ry)
  have hl : OwQ.EqI X.prog X.w A X.xe p q bs (fun _ s' => LpI X pins σ H s') := fun i s' l => by
    obtain ⟨H1, I1, e1⟩ := id l
    obtain ⟨z, its, k, r, e⟩ := (show ObjOk X.prog X.w H1 s'.heap p (.lst xs) from I1.hok p _ (e1 _ _ hp))
    obtain ⟨z2, its2, k2, r2, e2⟩ := (show ObjOk X.prog X.w H1 s'.heap q (.lst ys) from I1.hok q _ (e1 _ _ hq))
    refine ⟨its.toArray, its2.toArray, k, k2, e, e2, by rw [List.size_toArray, ← r.length]; exact pe.lx, by rw [List.size_toArray, ← r2.length]; exact pe.ly, fun h1 h2 h3 => turnE hD h sb pe r r2 i h1 h2 h3 s' l⟩
  obtain ⟨z, its, k, r, e⟩ := (show ObjOk X.prog X.w H s.heap p (.lst xs) from I.hok p _ hp)
  obtain ⟨z2, its2, k2, r2, e2⟩ := (show ObjOk X.prog X.w H s.heap q (.lst ys) from I.hok q _ hq)
  have hT : s.TypeIs (.ref p) "list" := ⟨_, e, rfl⟩
  have hT2 : s.TypeIs (.ref q) "list" := ⟨_, e2, rfl⟩
  refine wpAny_richCompare_same_room (op := .Eq) hT hT2 PySem.F.slot_list_eq (GQ.call_here PySem.F.slot_list_eq hT PySem.F.entry_list_eq (PySem.F.args_list_eq_2 _ _) ?_) sb.room.units0
  exact OwQ.list_eqB (R := wants (fun v s' => v ≠ .notImplemented ∧ (v = .bool (bs.all id) ∧ ∃ H', Inv X pins σ H' s' ∧ Ex H H')) X.xe) p q bs _ hl (fun i s' l => ⟨(fun x => nomatch x), rfl, l⟩) ⟨H, I, Ex.refl _⟩
theorem neE_tup (hD : MonE D) (h : EqE X n D) : RcE X (n + 1) .NotEq (DTp X.K D) := by
  intro A pins s σ H x y u v b sb I rx ry d
  obtain ⟨p, q, xs, ys, bs, rfl, rfl, hp, hq, pe, rfl⟩ := d
  cases (show u = Value.ref p from rx)
  cases (show v = Value.ref q from ry)
  obtain ⟨its, r, e, z⟩ := I.tuple hp
  obtain ⟨its2, r2, e2, z2⟩ := I.tuple hq
  obtain ⟨⟨cls, dd, data, sl⟩, ho, hc, k, hd⟩ := id e
  obtain ⟨⟨cls2, dd2, data2, sl2⟩, ho2, hc2, k2, hd2⟩ := id e2
  simp only at hc hd hc2 hd2
  subst hc hd hc2 hd2
  have hT : s.TypeIs (.ref p) "tuple" := ⟨_, ho, rfl⟩
  have hT2 : s.TypeIs (.ref q) "tuple" := ⟨_, ho2, rfl⟩
  refine wpAny_richCompare_same_room (op := .NotEq) hT hT2 PySem.F.slot_tuple_ne (GQ.call_here PySem.F.slot_tuple_ne hT PySem.F.entry_tuple_ne (PySem.F.args_tuple_ne_2 _ _) ?_) sb.room.units0
  exact OwQ.tuple_neB (R := wants (fun v s' => v ≠ .notImplemented ∧ (v = .bool (!bs.all id) ∧ ∃ H', Inv X pins σ H' s' ∧ Ex H H')) X.xe) p q _ _ k k2 dd dd2 sl sl2 bs (by rw [List.size_toArray, ← r.length]; exact pe.lx) (by rw [List.size_toArray, ← r2.length]; exact pe.ly) (fun _ s' => LpI X pins σ H s') (fun i h1 h2 h3 s' l => turnE hD h sb pe r r2 i h1 h2 h3 s' l) (fun i s' l => ⟨(fun x => nomatch x), rfl, l⟩) ho ho2 ⟨H, I, Ex.refl _⟩
end
end L2
/-! What these come to. -/
namespace L2
open PySem PySem.Spec PyProof.Rows _root_.Evl
section
variable {σ : L2.St} {H H' : Hp} {ta tb te : TE} {x y z v : V} {D : EqR} {b : Bool} {C : Addr} {sp : Sp} {K : PySem.W.Frag}
theorem rv_cmpE (h : ∀ H1, Ex H H1 → D x y H1 b) : RV (rCmpE D) x y H (.bl b) := fun H1 e Q q => ⟨b, h H1 e, q⟩
theorem rv_inE {p : Addr} {xs : List V} {bs : List Bool} (hp : H p = some (.lst xs)) (h : ∀ H1, Ex H H1 → PrE D xs (List.replicate bs.length x) H1 bs) : RV (rInE D) x (.ref p) H (.bl (bs.any id)) := fun H1 e Q q => ⟨p, xs, bs, rfl, e _ _ hp, h H1 e, q⟩
theorem rv_inTE {p : Addr} {xs : List V} {bs : List Bool} (hp : H p = some (.tup xs)) (h : ∀ H1, Ex H H1 → PrE D xs (List.replicate bs.length x) H1 bs) : RV (rInTE K D) x (.ref p) H (.bl (bs.any id)) := fun H1 e Q q => ⟨p, xs, bs, rfl, st_of (e _ _ hp), h H1 e, q⟩
/-- a call of one thing that tells a text -/
theorem ev_strO {a dx : Addr} {fs : List (Str × V)} {s : Str} (h : Ev te σ H (.ref a)) (ha : H a = some (.ins C dx fs)) (hs : SpV sp [.ref a] H (.str s)) : Ev (tCB (rStrO C sp) (tCons te tNil)) σ H (.str s) := fun H1 e Q q =>
  h H1 e _ fun H2 e2 => ⟨a, dx, fs, rfl, (e.trans e2) _ _ ha, hs H2 (e.trans e2) _ (fun H3 e3 => ⟨s, rfl, q H3 (e2.trans e3)⟩) _⟩
theorem ev_lenO {a dx : Addr} {fs : List (Str × V)} {i : Int} (h : Ev te σ H (.ref a)) (ha : H a = some (.ins C dx fs)) (hs : SpV sp [.ref a] H (.int i)) (i0 : 0 ≤ i) (i1 : i < 2 ^ 63) : Ev (tCB (rLenO C sp) (tCons te tNil)) σ H (.int i) := fun H1 e Q q =>
  h H1 e _ fun H2 e2 => ⟨a, dx, fs, rfl, (e.trans e2) _ _ ha, hs H2 (e.trans e2) _ (fun H3 e3 => ⟨i, rfl, i0, i1, q H3 (e2.trans e3)⟩) _⟩
theorem ev_fmtO {a dx : Addr} {fs : List (Str × V)} {s : Str} (h : Ev te σ H (.ref a)) (ha : H a = some (.ins C dx fs)) (hs : SpV sp [.ref a] H (.str s)) : Ev (tFmtO C sp te) σ H (.str s) := fun H1 e Q q =>
  h H1 e _ fun H2 e2 => ⟨a, dx, fs, rfl, (e.trans e2) _ _ ha, hs H2 (e.trans e2) _ (fun H3 e3 => ⟨s, rfl, q H3 (e2.trans e3)⟩) _⟩
theorem ev_fmtS {s : Str} (h : Ev te σ H (.str s)) (hl : s.length ≤ 100000) : Ev (tFmt te) σ H (.str s) := fun H1 e Q q => h H1 e _ fun H2 e2 => .inl ⟨s, rfl, sz_of hl, q H2 e2⟩
theorem ev_fmtI {i : Int} (h : Ev te σ H (.int i)) (hl : i.natAbs.log2 < 1920) : Ev (tFmt te) σ H (.str (Str.ofString (toString i))) := fun H1 e Q q => h H1 e _ fun H2 e2 => .inr ⟨i, rfl, hl, q H2 e2⟩
/-- texts one behind the other -/
def catS : Str → List Str → Str
  | acc, [] => acc
  | acc, y :: ys => catS (acc ++ y) ys
theorem len_app (x y : Str) : (x ++ y).length = x.length + y.length := by
  show (x.cps ++ y.cps).size = _
  exact Array.size_append
theorem catS_len : ∀ (ys : List Str) (acc : Str), acc.length ≤ (catS acc ys).length
  | [], acc => Nat.le_refl _
  | y :: ys, acc => Nat.le_trans (by rw [len_app]; omega) (catS_len ys (acc ++ y))
inductive EvJ (σ : L2.St) (H : Hp) : List TE → List Str → Prop where
  | nil : EvJ σ H [] []
  | cons {t : TE} {ts : List TE} {y : Str} {ys : List Str} (h : Ev t σ H (.str y)) (r : EvJ σ H ts ys) : EvJ σ H (t :: ts) (y :: ys)
theorem EvJ.go {ts : List TE} {ys : List Str} (h : EvJ σ H ts ys) : ∀ (acc : Str) (H1 : Hp), Ex H H1 → ∀ Q : Str → Hp → Prop, (catS acc ys).length ≤ 100000 → (∀ H2, Ex H1 H2 → Q (catS acc ys) H2) → tJs ts acc σ H1 Q := by
  induction h with
  | nil => exact fun acc H1 e Q _ q => q H1 (Ex.refl _)
  | @cons t ts y ys h r ih =>
    intro acc H1 e Q hl q
    exact h H1 e _ fun H2 e2 => ⟨y, rfl, sz_of (Nat.le_trans (catS_len ys (acc ++ y)) hl), ih (acc ++ y) H2 (e.trans e2) Q hl fun H3 e3 => q H3 (e2.trans e3)⟩
theorem ev_joined {ts : List TE} {ys : List Str} (h : EvJ σ H ts ys) (hl : (catS Str.empty ys).length ≤ 100000) : Ev (fun σ H Q => tJs ts Str.empty σ H fun out H1 => Q (.str out) H1) σ H (.str (catS Str.empty ys)) := fun H1 e Q q => h.go Str.empty H1 e _ hl q
theorem ev_addStr {x y : Str} (ha : Ev ta σ H (.str x)) (hb : Ev tb σ H (.str y)) (h : x.length + y.length ≤ 100000) : Ev (tOp (fun x y H Q => ∃ i j, x = .str i ∧ y = .str j ∧ i.length + j.length ≤ sizeLine ∧ Q (.str (i ++ j)) H) ta tb) σ H (.str (x ++ y)) :=
  ev_op ha hb (rv_val fun H1 _ Q q => ⟨x, y, rfl, rfl, sz_of h, q⟩)
theorem ev_eqS2 {x y : Str} (ha : Ev ta σ H (.str x)) (hb : Ev tb σ H (.str y)) : Ev (tOp rEq ta tb) σ H (.bl (decide (x = y))) := by
  have h := ev_op ha hb (rv_eq (x := .str x) (y := .str y) rfl)
  have e : decide (V.str x = V.str y) = decide (x = y) := by
    rw [Bool.eq_iff_iff]
    simp
  rw [e] at h
  exact h
theorem ev_neS2 {x y : Str} (ha : Ev ta σ H (.str x)) (hb : Ev tb σ H (.str y)) : Ev (tOp rNe ta tb) σ H (.bl (!decide (x = y))) := by
  have h := ev_op ha hb (rv_ne (x := .str x) (y := .str y) rfl)
  have e : decide (V.str x = V.str y) = decide (x = y) := by
    rw [Bool.eq_iff_iff]
    simp
  rw [e] at h
  exact h
theorem rc_strI {i : Int} (h : i.natAbs.log2 < 1920) : RC (fun xs H Q => ∃ i : Int, xs = [V.int i] ∧ i.natAbs.log2 < 1920 ∧ Q (.str (Str.ofString (toString i))) H) [.int i] H (.str (Str.ofString (toString i))) := fun H1 _ Q q => ⟨i, rfl, h, q H1 (Ex.refl _)⟩
theorem log_lt {i : Int} {n : Nat} (h : i.natAbs < 2 ^ n) (hn : n ≤ 1920) (h0 : 0 < n) : i.natAbs.log2 < 1920 := by
  rcases Nat.eq_zero_or_pos i.natAbs with e | e
  · rw [e]
    decide
  · exact Nat.lt_of_lt_of_le ((Nat.log2_lt (by omega)).mpr h) hn
/-- things of built-in kinds -/
def EvK (te : TE) (σ : L2.St) (H : Hp) : Prop := ∀ H1, Ex H H1 → ∀ Q : VK, (∀ v H2, Ex H1 H2 → (∃ T, Kd H2 v T) → Q v H2) → te σ H1 Q
def EvKA (ta : TA) (σ : L2.St) (H : Hp) (n : Nat) : Prop := ∀ H1, Ex H H1 → ∀ Q : List V → Hp → Prop, (∀ vs H2, Ex H1 H2 → vs.length = n → (∀ v ∈ vs, ∃ T, Kd H2 v T) → Q vs H2) → ta σ H1 Q
theorem ek_v {T : String} (h : Ev te σ H v) (k : ∀ H1, Ex H H1 → Kd H1 v T) : EvK te σ H := fun H1 e Q q => h H1 e _ fun H2 e2 => q v H2 e2 ⟨T, k H2 (e.trans e2)⟩
theorem ek_c {T : String} (k : ∀ H1, Kd H1 v T) : EvK (tC v) σ H := ek_v ev_c fun H1 _ => k H1
theorem ek_L {xs : List V} (h : EvL te σ H xs) : EvK te σ H := fun H1 e Q q => h H1 e _ fun p H2 _ e2 hp => q _ H2 e2 ⟨_, .lst hp⟩
theorem ek_U {xs : List V} (h : EvU te σ H xs) : EvK te σ H := fun H1 e Q q => h H1 e _ fun p H2 _ e2 hp => q _ H2 e2 ⟨_, .tup hp⟩
theorem ek_dict : EvK tDNewK σ H := fun H1 e Q q p hp => q _ _ (Ex.new hp) ⟨_, .dK upd_same⟩
theorem ek_nil : EvKA tNil σ H 0 := fun H1 e Q q => q [] H1 (Ex.refl _) rfl fun v h => nomatch h
theorem ek_cons {tr : TA} {n : Nat} (h : EvK te σ H) (hr : EvKA tr σ H n) : EvKA (tCons te tr) σ H (n + 1) := fun H1 e Q q => h H1 e _ fun v H2 e2 ⟨T, hT⟩ => hr H2 (e.trans e2) _ fun vs H3 e3 hl hk => q (v :: vs) H3 (e2.trans e3) (by rw [List.length_cons, hl]) fun u hu => by
  rcases List.mem_cons.mp hu with rfl | hu
  · exact ⟨T, hT.ex e3⟩
  · exact hk u hu
theorem EvKA.go {ta : TA} {n : Nat} {Q : List V → Hp → Prop} (h : EvKA ta σ H n) (k : ∀ vs H2, Ex H H2 → vs.length = n → (∀ v ∈ vs, ∃ T, Kd H2 v T) → Q vs H2) : ta σ H Q := h H (Ex.refl _) _ k
/-- pairs of ints compared -/
theorem eqv_pair (a b : Int × Int) : PyData.eqv (.tuple [.int a.1, .int a.2]) (.tuple [.int b.1, .int b.2]) = decide (a = b) := by
  obtain ⟨a1, a2⟩ := a
  obtain ⟨b1, b2⟩ := b
  show (a1 == b1 && (a2 == b2 && true)) = decide ((a1, a2) = (b1, b2))
  rw [Bool.eq_iff_iff]
  simp
theorem dp_pair {p : Addr} {a : Int × Int} (h : H p = some (.tup [.int a.1, .int a.2])) : Dp K H (.ref p) (.tuple [.int a.1, .int a.2]) := .tup (st_of h) (.cons (.int _) (.cons (.int _) .nil))
theorem rv_eqP {p q : Addr} {a b : Int × Int} (hp : H p = some (.tup [.int a.1, .int a.2])) (hq : H q = some (.tup [.int b.1, .int b.2])) : RV (rEqD K) (.ref p) (.ref q) H (.bl (decide (a = b))) := fun H1 e Q k =>
  ⟨_, _, dp_pair (e _ _ hp), dp_pair (e _ _ hq), rfl, rfl, by
    rw [eqv_pair]
    exact k H1 (Ex.refl _)⟩
theorem rv_neP {p q : Addr} {a b : Int × Int} (hp : H p = some (.tup [.int a.1, .int a.2])) (hq : H q = some (.tup [.int b.1, .int b.2])) : RV (rNeD K) (.ref p) (.ref q) H (.bl (!decide (a = b))) := fun H1 e Q k =>
  ⟨_, _, dp_pair (e _ _ hp), dp_pair (e _ _ hq), rfl, rfl, by
    rw [eqv_pair]
    exact k H1 (Ex.refl _)⟩
/-- a loop over a list that an expression tells: the expression first -/
theorem q_forO {g : TG} {tu tz : TS} {E : Ends} (h : te σ H fun x H1 => ∃ a, x = .ref a ∧ (∃ xs, SqL K H1 a xs) ∧ tFor (fun _ H' R => R (Itl K a) H') g tu { E with nx := tz E } σ H1) : tSeq (tFor (iList K te) g tu) tz E σ H := h
theorem rc_intB {b : Bool} : RC (fun xs H Q => (∃ i, xs = [V.int i] ∧ Q (.int i) H) ∨ ∃ k, xs = [V.bl k] ∧ Q (.int (if k then 1 else 0)) H) [.bl b] H (.int (if b then 1 else 0)) := fun H1 _ Q q => .inr ⟨b, rfl, q H1 (Ex.refl _)⟩
theorem rc_isiK {x : V} {T : String} (c : OwnC K C) (h : ∀ H1, Ex H H1 → Kd H1 x T) : RC (rIsi K) [x, .ref C] H (.bl false) := rc_isi (.own C) (fun H1 e => (h H1 e).tyx) (c.kit (h H (Ex.refl _)).mem)
end
end L2
/-! f'{n:018d}': figures with noughts ahead. -/
namespace L2
open PySem PySem.Spec PyProof.Rows _root_.Evl
def digB (K : PySem.W.Frag) : Bool := decide (PySem.W.nsIn K cStatics "sys.int_max_str_digits" = some none)
section
variable {X : Cx}
theorem noDigits_of {pins : List (Addr × Obj)} {s : Shared} {σ : St} {H : Hp} (I : Inv X pins σ H s) (h : digB X.K = true) : s.heap.NoDigits := by
  have h := of_decide_eq_true h
  obtain ⟨mc, ns, _⟩ := I.nolimit
  refine ⟨mc, ns, ?_⟩
  obtain ⟨o, es, ep, ho, hd, hk, hf⟩ := ns
  unfold PySem.W.nsIn at h
  cases e : X.K.lookup cStatics with
  | none =>
    rw [e] at h
    cases h
  | some o' =>
    rw [e] at h
    have q := I.kIn _ _ e
    rw [ho] at q
    cases q
    obtain ⟨c1, d1, dt, sl⟩ := o
    simp only at hd
    subst hd
    dsimp only at h
    rw [← hf]
    unfold nsFind findBy
    rw [← Array.find?_toList]
    split at h
    · cases h
    · rename_i q
      rw [q]
      rfl
/-- figures, noughts ahead to w of them -/
def zpad (w : Nat) (a : Int) : Str := ⟨(List.replicate (w - (Nat.toDigits 10 a.natAbs).length) 48).toArray⟩ ++ Str.ofString (toString a)
def tFmtZ (w : Nat) (te : TE) : TE := fun σ H Q => te σ H fun x H1 => ∃ i : Int, x = .int i ∧ 0 ≤ i ∧ i.natAbs < 10 ^ 4300 ∧ Q (.str (zpad w i)) H1
theorem pe_fmt18 {e : Expr} {te : TE} {pos p1 p2 : Pos} {k : Nat} (hd : digB X.K = true) (he : PE X e te) : PE X (.FormattedValue e (-1) (some (.JoinedStr [.Constant (.str "018d") k p1] p2)) pos) (tFmtZ 18 te) := by
  refine ⟨fun pins s σ H Q I h => ?_⟩
  refine wpAny_FormattedValue_spec (thn (he.run pins s σ H _ I h) fun v s1 hv => ?_)
  obtain ⟨x, H1, I1, r1, i, rfl, i0, i1, q⟩ := hv
  obtain ⟨t, rfl⟩ := r1
  refine thn ((pe_joined1 pe_str).run pins s1 σ H1 (fun z H2 => z = .str "018d" ∧ H2 = H1) I1 ⟨rfl, rfl⟩) fun r s2 hr => ?_
  obtain ⟨z, H2, I2, rz, rfl, rfl⟩ := hr
  obtain ⟨t2, rfl⟩ := rz
  refine ⟨"018d", t2, rfl, formatField_int_specOf (noDigits_of I2 hd) i1 (by decide +kernel) fun W hW F => ?_⟩
  have e : intSpecTextOf "018d" i = zpad 18 i := by
    have h := F.zeroG (by decide +kernel) i0
    have hW : W = 18 := hW.trans (by decide +kernel)
    rw [hW] at h
    exact h
  rw [e]
  exact ⟨.str (zpad 18 i), H2, I2.tok _, ⟨_, rfl⟩, q⟩
end
end L2
namespace L2
open PySem PySem.Spec PyProof.Rows _root_.Evl
theorem ev_fmtZ {σ : L2.St} {H : Hp} {te : TE} {i : Int} {w : Nat} (h : Ev te σ H (.int i)) (h0 : 0 ≤ i) (h1 : i.natAbs < 10 ^ 4300) : Ev (tFmtZ w te) σ H (.str (zpad w i)) := fun H1 e Q q => h H1 e _ fun H2 e2 => ⟨i, rfl, h0, h1, q H2 e2⟩
theorem bits_le {i : Int} {n : Nat} (h : i.natAbs < 2 ^ n) : Builtin.Int.intBits i ≤ n := PyProof.Rows.intBits_le h
end L2
/-! Texts as rows of signs. -/
namespace L2
open PySem PySem.Spec PyProof.Rows _root_.Evl
def cs (z : Str) : List Nat := z.cps.toList
theorem cs_len (z : Str) : z.length = (cs z).length := by simp [cs, Str.length]
def isL (c : Nat) : Bool := decide (c ∈ cs "abcdefghijklmnopqrstuvwxyz")
def isM (c : Nat) : Bool := decide (c ∈ cs "><")
theorem isM_law (c : Nat) : decide (c ∈ cs "<>") = isM c := by
  have e1 : cs "<>" = [60, 62] := by decide +kernel
  have e2 : cs "><" = [62, 60] := by decide +kernel
  unfold isM
  rw [e1, e2]
  simp [or_comm]
theorem isM_no (c : Nat) (h : isM c = true) : isL c = false := by
  have e2 : cs "><" = [62, 60] := by decide +kernel
  have h1 := of_decide_eq_true h
  rw [e2] at h1
  simp only [List.mem_cons, List.mem_nil_iff, or_false] at h1
  rcases h1 with rfl | rfl <;> decide +kernel
def takeS (z : Str) (n : Nat) : Str := ⟨((cs z).take n).toArray⟩
def dropS (z : Str) (n : Nat) : Str := ⟨((cs z).drop n).toArray⟩
theorem cut_take (z : Str) (n : Nat) : cutS z none (some (n : Int)) = takeS z n := by
  unfold cutS takeS
  rw [HT.sIx_none, HT.sIx_nat, List.drop_zero, Nat.sub_zero]
  congr 2
  show List.take (min n z.length) z.cps.toList = _
  rw [cs_len]
  by_cases h : n ≤ (cs z).length
  · rw [Nat.min_eq_left h]
    rfl
  · rw [Nat.min_eq_right (by omega)]
    show List.take (cs z).length (cs z) = _
    rw [List.take_of_length_le (Nat.le_refl _), List.take_of_length_le (by omega)]
theorem cut_drop (z : Str) (n : Nat) : cutS z (some (n : Int)) none = dropS z n := by
  unfold cutS dropS
  rw [HT.sIx_none, HT.sIx_nat]
  congr 1
  rw [cs_len]
  have e : z.cps.toList = cs z := rfl
  rw [e]
  by_cases h : n ≤ (cs z).length
  · rw [Nat.min_eq_left h, List.take_of_length_le (by rw [List.length_drop]; omega)]
  · rw [Nat.min_eq_right (by omega), List.drop_of_length_le (Nat.le_refl _), List.drop_of_length_le (by omega)]
    simp
section
variable {σ : L2.St} {H : Hp} {ta tb : TE} {x y : V}
theorem rc_lenS {z : Str} (hz : z.length ≤ 1000) : RC (fun xs H Q => ∃ z : Str, xs = [.str z] ∧ z.length ≤ sizeLine ∧ Q (.int z.length) H) [.str z] H (.int ((cs z).length : Int)) := fun H1 _ Q q =>
  ⟨z, rfl, sz_of (by omega), by rw [cs_len]; exact q H1 (Ex.refl _)⟩
theorem rv_inS {c : Nat} {z : Str} : RV (fun x y H Q => ∃ (c : Nat) (z : Str), x = .str ⟨#[c]⟩ ∧ y = .str z ∧ Q (.bl (decide (c ∈ z.cps.toList))) H) (.str ⟨#[c]⟩) (.str z) H (.bl (decide (c ∈ cs z))) := fun H1 _ Q q => ⟨c, z, rfl, rfl, q H1 (Ex.refl _)⟩
theorem ev_ixS {z : Str} {i c : Nat} (ha : Ev ta σ H (.str z)) (hb : Ev tb σ H (.int (i : Int))) (hz : z.length ≤ 1000) (hc : (cs z)[i]? = some c) : Ev (tOp rIxS ta tb) σ H (.str ⟨#[c]⟩) := ev_op ha hb (rv_ixS (by omega) (atI_nat hc))
theorem ev_take {z : Str} {n : Nat} (ha : Ev ta σ H (.str z)) (hb : Ev tb σ H (.int (n : Int))) (hz : z.length ≤ 1000) : Ev (tSl rSlS ta tNoPart (tPart tb)) σ H (.str (takeS z n)) := fun H1 e Q q =>
  ha H1 e _ fun H2 e2 => hb H2 (e.trans e2) _ fun H3 e3 => ⟨_, rfl, z, rfl, sz_of (by omega), by rw [cut_take]; exact q H3 (e2.trans e3)⟩
theorem ev_drop {z : Str} {n : Nat} (ha : Ev ta σ H (.str z)) (hb : Ev tb σ H (.int (n : Int))) (hz : z.length ≤ 1000) : Ev (tSl rSlS ta (tPart tb) tNoPart) σ H (.str (dropS z n)) := fun H1 e Q q =>
  ha H1 e _ fun H2 e2 => hb H2 (e.trans e2) _ fun H3 e3 => ⟨_, rfl, z, rfl, sz_of (by omega), by rw [cut_drop]; exact q H3 (e2.trans e3)⟩
end
def Word (z : Str) : Prop := 1 ≤ (cs z).length ∧ (cs z).length ≤ 6 ∧ ∀ c ∈ cs z, isL c = true
def wordB (z : Str) : Bool := decide (1 ≤ (cs z).length) && (decide ((cs z).length ≤ 6) && (cs z).all isL)
theorem wordB_ok {z : Str} (h : wordB z = true) : Word z := by
  unfold wordB at h
  rw [Bool.and_eq_true, Bool.and_eq_true, decide_eq_true_eq, decide_eq_true_eq, List.all_eq_true] at h
  exact ⟨h.1, h.2.1, h.2.2⟩
theorem lc_rng {σ : L2.St} {H : Hp} {te te0 : TE} {Q : VK} {g : TG} {t : TT} {vs : List Nat} (h : te0 σ H fun v H1 => tLc (iRng1 (fun _ H R => R [v] H)) g t te vs σ H1 Q) : tLc (iRng1 (tCons te0 tNil)) g t te vs σ H Q := h
def ofL (l : List Nat) : Str := ⟨l.toArray⟩
theorem cs_ofL (l : List Nat) : cs (ofL l) = l := rfl
theorem ofL_cs (z : Str) : ofL (cs z) = z := by
  cases z
  rfl
theorem ofL_len (l : List Nat) : (ofL l).length = l.length := by
  rw [cs_len, cs_ofL]
theorem ofL_inj {l m : List Nat} (h : ofL l = ofL m) : l = m := congrArg cs h
theorem ofL_app (l m : List Nat) : ofL l ++ ofL m = ofL (l ++ m) := TL.ext_tl (TL.tl_append _ _)
theorem take_ofL (l : List Nat) (n : Nat) : takeS (ofL l) n = ofL (l.take n) := rfl
theorem drop_ofL (l : List Nat) (n : Nat) : dropS (ofL l) n = ofL (l.drop n) := rfl
theorem cs_app (x y : Str) : cs (x ++ y) = cs x ++ cs y := TL.tl_append x y
theorem cs_take (z : Str) (n : Nat) : cs (takeS z n) = (cs z).take n := rfl
theorem cs_drop (z : Str) (n : Nat) : cs (dropS z n) = (cs z).drop n := rfl
theorem ev_cat {σ : L2.St} {H : Hp} {ta tb : TE} {x y : Str} (ha : Ev ta σ H (.str x)) (hb : Ev tb σ H (.str y)) (hx : x.length ≤ 10000) (hy : y.length ≤ 10000) : Ev (tOp (fun x y H Q => ∃ i j : Str, x = .str i ∧ y = .str j ∧ i.length + j.length ≤ sizeLine ∧ Q (.str (i ++ j)) H) ta tb) σ H (.str (x ++ y)) :=
  ev_op ha hb fun H4 _ Q' q' => ⟨_, _, rfl, rfl, sz_of (by omega), q' H4 (Ex.refl _)⟩
def ownS : List Str := ["rose", "none", "home", "away", "ok", "same", "on", "back", "own", "across", "corner", "wind"]
theorem own_word : ∀ z ∈ ownS, Word z := by
  have h : ownS.all wordB = true := by decide +kernel
  exact fun z hz => wordB_ok (List.all_eq_true.mp h z hz)
theorem own_len : ownS.length = 12 := rfl
def LT : Str := "abcdefghijklmnopqrstuvwxyz"
theorem LT_len : (cs LT).length = 26 := by decide +kernel
theorem at_some {α : Type} {L : List α} {j : Int} (h0 : 0 ≤ j) (h1 : j < L.length) : ∃ v ∈ L, atI L j = some v := by
  obtain ⟨n, rfl⟩ := Int.eq_ofNat_of_zero_le h0
  have hn : n < L.length := by omega
  exact ⟨L[n], List.getElem_mem hn, atI_nat (by rw [List.getElem?_eq_getElem hn])⟩
def go (j : Int) : Str := (atI ownS j).getD ""
theorem go_at {j : Int} (h0 : 0 ≤ j) (h1 : j < 12) : atI (ownS.map V.str) j = some (.str (go j)) ∧ Word (go j) := by
  obtain ⟨n, rfl⟩ := Int.eq_ofNat_of_zero_le h0
  have hn : n < ownS.length := by
    rw [own_len]
    omega
  have e : atI ownS (n : Int) = some ownS[n] := atI_nat (List.getElem?_eq_getElem hn)
  unfold go
  rw [e]
  exact ⟨atI_nat (by rw [List.getElem?_map, List.getElem?_eq_getElem hn]; rfl), own_word _ (List.getElem_mem hn)⟩
def gl (j : Int) : Nat := (atI (cs LT) j).getD 0
theorem gl_at {j : Int} (h0 : 0 ≤ j) (h1 : j < 26) : atI (cs LT) j = some (gl j) ∧ isL (gl j) = true := by
  obtain ⟨v, hv, e⟩ := at_some (L := cs LT) h0 (by rw [LT_len]; exact h1)
  unfold gl
  rw [e]
  exact ⟨rfl, decide_eq_true hv⟩
theorem given_all {n : Nat} {g : Nat → Str} : given n (fun _ => true) (fun i => V.str (g i)) = ((List.range n).map g).map V.str := by
  unfold given
  rw [List.filter_eq_self.mpr (fun _ _ => rfl), List.map_map]
  rfl
end L2
/-! set(t) of a tuple of unlike texts, and its len; len(range(n)). -/
namespace OwS
open PySem PySem.Spec PyProof.Rows
section
variable {P : Program} {w : World} {A : Around} {E : Value → Shared → Prop} {s : Shared}
/-- the texts go in one by one, each a new one -/
theorem go_in {I : Addr} {fp wr : List Addr} {G : Array GenState → Array GenState → Prop} {Pv : Nat → Value → Prop} {St : Nat → Shared → Prop} {R : Result → Shared → Prop} (xs : List Str) (nd : xs.Nodup) (few : xs.length + 1 < scanBound)
    (W : WalksS P w A.in1 I fp wr G xs.length Pv St) (S : Addr) (out : S ∉ fp) (is : ∀ i v, Pv i v → ∃ x t, xs[i]? = some x ∧ v = .str x t) :
    ∀ (left i : Nat) (s : Shared), xs.length - i = left → i ≤ xs.length → St i s → s.heap.SetOf (strKind P w) S (fun y => decide (y ∈ xs.take i)) i →
      (∀ s', Moved (S :: wr) G s s' → s'.heap.SetOf (strKind P w) S (fun y => decide (y ∈ xs)) xs.length → R (.ok (.ret .none)) s') →
      codeAny (model P w) A (.builtin "set.update.loop" ⟨[.ref S, .ref I], []⟩) R s := by
  have nw : S ∉ wr := fun h => out (W.sub _ h)
  have up : ∀ b ∈ wr, b ∈ S :: wr := fun b hb => List.mem_cons_of_mem _ hb
  have moved : ∀ {h h' : Heap} {f : Str → Bool} {n : Nat}, h.SetOf (strKind P w) S f n → (∀ o, h.get? S = some o → h'.get? S = some o) → h'.SetOf (strKind P w) S f n := fun hS hk => by
    obtain ⟨o, es, ep, t, ho, rest⟩ := hS
    exact ⟨o, es, ep, t, hk o ho, rest⟩
  intro left
  induction left with
  | zero =>
    intro i s hl hi st hS k
    obtain rfl : i = xs.length := by omega
    rw [List.take_length] at hS
    refine codeAny_builtin F.entry_set_update_loop ?_
    rw [Around.under_plainId F.plain_set_update_loop _]
    exact wpAny_bind (W.done s _ _ st fun s' m => wpAny_pure (k s' (m.mono up) (moved hS fun o e => m.heap S o nw e)))
  | succ left ih =>
    intro i s hl hi st hS k
    have lt : i < xs.length := by omega
    refine codeAny_builtin F.entry_set_update_loop ?_
    rw [Around.under_plainId F.plain_set_update_loop _]
    refine wpAny_bind (W.item i s _ _ lt st fun v s' pv st' m => ?_)
    obtain ⟨x, t, hx, rfl⟩ := is i v pv
    have hS1 := moved (h' := s'.heap) hS fun o e => m.heap S o nw e
    show wpAny _ A.in1 (holding [Value.str x t] (setAdd S (.str x t)) >>= _) _ _ s'
    refine wpAny_bind (wpAny_holding ?_)
    unfold setAdd
    refine wpAny_holding (wpAny_bind ((strKind P w).pyHash (k := x) (strKind_is _ _ _ _) ?_))
    refine wpAny_setAddHashed_of (knd := strKind P w) (s := { s' with toks := s'.toks + 1 }) (strKind_is _ _ _ _) rfl hS1 (by omega) fun h' sb hS2 => ?_
    have new : x ∉ xs.take i := fun hm => by
      obtain ⟨j, hj⟩ := List.mem_iff_getElem?.mp hm
      rw [List.getElem?_take] at hj
      by_cases ji : j < i
      · rw [if_pos ji] at hj
        have e1 := (List.getElem?_eq_some_iff.mp hj)
        have e2 := (List.getElem?_eq_some_iff.mp hx)
        exact absurd (e1.2.trans e2.2.symm) (List.pairwise_iff_getElem.mp nd j i e1.1 e2.1 ji)
      · rw [if_neg ji] at hj
        cases hj
    have hS3 : h'.SetOf (strKind P w) S (fun y => decide (y ∈ xs.take (i + 1))) (i + 1) := by
      refine SetOf_congr hS2 (fun y => ?_) ?_
      · rw [List.take_add_one, hx]
        show (decide (y ∈ xs.take i) || decide (y = x)) = decide (y ∈ xs.take i ++ [x])
        rw [Bool.eq_iff_iff]
        simp [List.mem_append]
      · show (if decide (x ∈ xs.take i) = true then i else i + 1) = i + 1
        rw [if_neg (by simpa using new)]
    refine wpAny_pure ⟨plainId_quiet F.plain_set_update_loop _, ih (i + 1) _ (by omega) lt (W.frame _ s' _ _ st' (Nat.le_succ _) fun b hb o e => ?_) hS3 fun s2 m2 hS4 => ?_⟩
    · rw [sb.2 b (fun h => out (h ▸ hb))]
      exact e
    · refine k s2 (Moved.trans W.gtrans ((m.mono up).then_heap (Nat.le_succ _) fun b o hb e => ?_) m2) hS4
      rw [sb.2 b (fun h => hb (h ▸ List.mem_cons_self))]
      exact e
/-- set(t) -/
theorem set_tuple {l : Addr} {items : Array Value} {xs : List Str} {Q : Value → Shared → Prop} (hh : A.handled = none) (hl : s.heap.IsTuple l items) (hi : StrsAre items.toList xs) (nd : xs.Nodup) (few : xs.length + 1 < scanBound)
    (k : ∀ (h' : Heap) (tk : Nat), h'.SetOf (strKind P w) s.heap.objs.size (fun y => decide (y ∈ xs)) xs.length → (∀ b o, s.heap.get? b = some o → h'.get? b = some o) → Q (.ref s.heap.objs.size) { s with heap := h', toks := tk }) :
    wpAny (model P w) A (call (.type "set") [.ref l]) Q E s := by
  have hsz : items.size = xs.length := by
    have q := StrsAre.len_eq hi
    rw [Array.length_toList] at q
    exact q
  obtain ⟨c, tl, hmro⟩ := F.called_set.mro
  have hmade := F.called_set.made
  have hsub := F.called_set.sub
  have h1 := F.called_set.notType
  have h2 := F.called_set.canCreate
  have hct := F.typeCall_set_1 (.ref l)
  have hli := F.called_set.init.lookup
  refine wpAny_call (codeAny_of_tree ?_)
  show wpAny _ _ (callAny (.type "set") _) _ _ _
  refine wpAny_pure ⟨Code.quiet_builtin _ (by decide +kernel), codeAny_builtin F.entry_type_call ?_⟩
  rw [Around.under_plain (weight_type_call_type "set" [.ref l] []) rfl]
  repeat (any_goals (first | assumption | wp_step))
  let o0 : Bool → Obj := fun led => { cls := .type "set", dict := none, data := .set #[] 0 (.fresh 0 0 led) }
  refine codeAny_mono (code_set_new_1 (.ref l) (E := E) (Q₁ := fun obj s₁ => ∃ led : Bool, obj = .ref s.heap.objs.size ∧ s₁ = { s with heap := s.heap.push (o0 led) }) fun led => ⟨led, rfl, rfl⟩) fun r s₁ hr => ?_
  match r, hr with
  | .error e, hr => exact hr
  | .ok (.ret obj), hr =>
    obtain ⟨led, rfl, rfl⟩ := hr
    have hS : (s.heap.push (o0 led)).get? s.heap.objs.size = some (o0 led) := Heap.get?_push_size _ rfl
    have hT : Shared.TypeIs { s with heap := s.heap.push (o0 led) } (.ref s.heap.objs.size) "set" := ⟨_, hS, rfl⟩
    have hbi := F.called_set.init.bind (.ref s.heap.objs.size)
    repeat (any_goals (first | assumption | wp_step))
    refine codeAny_mono (codeAny_call_builtin (R := wants (fun r s₂ => r = .none ∧ ∃ h' tk, s₂ = { s with heap := h', toks := tk } ∧ h'.SetOf (strKind P w) s.heap.objs.size (fun y => decide (y ∈ xs)) xs.length ∧ ∀ b o, s.heap.get? b = some o → h'.get? b = some o) E) F.called_set.init.plain F.entry_set_init (check_set_init_1 hT ?_)) fun r₂ s₂ hr₂ => ?_
    · obtain ⟨⟨ocls, odict, odata, oslots⟩, hol, hcl, nl, hdl⟩ := hl
      simp only at hcl hdl
      subst hcl hdl
      have hol' := Heap.get?_push_of_some (o0 led) hol
      have hsls := F.sub_tuple_set
      have hslf := F.sub_tuple_frozenset
      have hne : (Value.type "tuple" == Value.type "dict") = false := by decide
      have hl1 : (s.heap.push (o0 led)).IsTuple l items := ⟨_, hol', rfl, nl, rfl⟩
      have hlS : l < s.heap.objs.size := Heap.lt_size hol
      unfold Builtin.«set.__init__» noKeywords Builtin.Frozenset.updateFrom
      generalize hPI : pyIter = PI
      wp_walk
      subst hPI
      refine wpAny_pyIter_tuple hl1 (wpAny_bind (wpAny_runValue ?_))
      have hh3 : A.in1.in1.in1.handled = none := by simp [hh]
      have ne : l ≠ (s.heap.push (o0 led)).objs.size := by
        rw [Heap.size_push]
        exact Nat.ne_of_lt (Nat.lt_succ_of_lt hlS)
      have W := (Walks.tuple (prog := P) (w := w) hh3 (s.heap.push (o0 led)).objs.size l ne items).toS
      rw [hsz] at W
      refine go_in xs nd few W s.heap.objs.size (by rw [Heap.size_push]; simp only [List.mem_cons, List.not_mem_nil, or_false, not_or]; exact ⟨Nat.ne_of_lt (Nat.lt_succ_self _), Nat.ne_of_gt hlS⟩) (fun i v hv => ?_) xs.length 0 _ rfl (Nat.zero_le _) ⟨⟨_, Heap.get?_push_size _ rfl, rfl, rfl⟩, hl1.push _⟩ ?_ ?_
      · have hv' : items.toList[i]? = some v := by
          rw [Array.getElem?_toList]
          exact hv
        have lt : i < xs.length := by
          rw [← hsz]
          exact (Array.getElem?_eq_some_iff.mp hv).1
        obtain ⟨t, e⟩ := SS.strs_at hi i v hv'
        refine ⟨xs[i], t, List.getElem?_eq_getElem lt, ?_⟩
        rw [e, List.getD_eq_getElem?_getD, List.getElem?_eq_getElem lt]
        rfl
      · have hget := Heap.get?_push_of_some ({ cls := .type "tuple_iterator", data := .fields #[.ref l, .int 0 0] } : Obj) hS
        exact SetOf_congr ((setObjOf_fresh (knd := strKind P w) led).setOf hget (by unfold scanBound; omega)) (fun y => by simp) rfl
      · intro s' m hS'
        obtain ⟨h', g', d', tk', os'⟩ := s'
        have eg : g' = s.gens := m.gens
        have ed : d' = s.drawn := m.drawn
        have eo : os' = s.os := m.os
        subst eg ed eo
        refine wpAny_pure (wpAny_pure ⟨rfl, h', tk', rfl, hS', fun b o e => ?_⟩)
        have hb := Heap.lt_size e
        refine m.heap b o ?_ (Heap.get?_push_of_some _ (Heap.get?_push_of_some _ e))
        rw [Heap.size_push]
        simp only [List.mem_cons, List.not_mem_nil, or_false, not_or]
        exact ⟨Nat.ne_of_lt hb, Nat.ne_of_lt (Nat.lt_succ_of_lt hb)⟩
    · match r₂, hr₂ with
      | .error e, hr₂ => exact hr₂
      | .ok (.ret r), hr₂ =>
        obtain ⟨rfl, h', tk, rfl, hS', hk'⟩ := hr₂
        repeat (any_goals (first | assumption | wp_step))
        exact k _ _ hS' hk'
end
end OwS
namespace L2
open PySem PySem.Spec PyProof.Rows _root_.Evl
section
variable {X : Cx} {σ : L2.St} {H : Hp} {K : PySem.W.Frag} {te : TE}
/-- len(set(t)), t a tuple of unlike texts -/
def tLenT (K : PySem.W.Frag) (ta : TE) : TE := fun σ H Q => ta σ H fun x H1 => ∃ (l : Addr) (xs : List Str), x = .ref l ∧ SqT K H1 l (xs.map V.str) ∧ xs.Nodup ∧ xs.length ≤ 1000 ∧ Q (.int xs.length) H1
theorem pe_lenT {a : Expr} {ta : TE} {p p2 q pos : Pos} (hc : X.calm = true) (hg : Gl X "len") (hm : X.mg "len" = none) (hg2 : Gl X "set") (hm2 : X.mg "set" = none) (ha : PE X a ta)
    (na : starEach [a] X.env = (false, eval a X.env) :: starEach [] X.env := by rfl) : PE X (.Call (.Name "len" p) [.Call (.Name "set" p2) [a] [] q] [] pos) (tLenT X.K ta) := by
  refine ⟨fun pins s σ H Q I h => ?_⟩
  refine Call_ (ld_blt I hg hm boot_len (callWith_builtin1 (args_cons ?_ rfl) rfl rfl))
  refine Call_ (ld_blt I hg2 hm2 boot_set (callWith_type1 (args_cons (thn (ha.run pins s σ H _ I h) fun v s1 ⟨x, H1, I1, r1, l, xs, ex, hq, nd, few, q1⟩ => args_nil ?_) na) na rfl))
  subst ex
  cases r1
  obtain ⟨its, r, pl, hz⟩ := I1.tuple hq
  refine OwS.set_tuple (I1.ok.hd hc) pl (by simpa using strsAre_of r) nd (by unfold scanBound; omega) fun h' tk hS hk => args_nil ?_
  have I2 : Inv X pins σ H1 { s1 with heap := h', toks := tk } := I1.kept fun b o e => hk b o e
  obtain ⟨o, es, ep, t, ho, hex, hd, _, _, _, hf, hn⟩ := hS
  refine call_len_set ho hex hd hf (by rw [hn]; omega) ⟨.int xs.length, H1, I2.tok _, ⟨_, by rw [hn]⟩, q1⟩
theorem ev_lenT {l : Addr} {xs : List Str} (h : Ev te σ H (.ref l)) (hq : H l = some (.tup (xs.map V.str))) (nd : xs.Nodup) (few : xs.length ≤ 1000) : Ev (tLenT K te) σ H (.int xs.length) := fun H1 e Q q => h H1 e _ fun H2 e2 => ⟨l, xs, rfl, st_of ((e.trans e2) _ _ hq), nd, few, q H2 e2⟩
/-- [e for j in t], t a tuple -/
theorem el_lcTu {a : Addr} {xs : List V} {tl : TE} {j : Nat} {vs : List Nat} {t : TT} (f : Nat → Bool) (v : Nat → V) (h : Ev tl σ H (.ref a)) (hx : SqT K H a xs) (hz : xs.length ≤ 40000) (hw : ∀ x, wipe ((wipe σ vs).set j (some x)) vs = wipe σ vs)
    (ht : ∀ (i : Nat) (x : V) H1, Ex H H1 → xs[i]? = some x → EvT t ((wipe σ vs).set j (some x)) H1 (f i)) (he : ∀ (i : Nat) (x : V) H1, Ex H H1 → xs[i]? = some x → f i = true → Ev te ((wipe σ vs).set j (some x)) H1 (v i)) :
    EvL (tLc (iTup K tl) (gName j) t te vs) σ H (given xs.length f v) := fun H0 e Q q => h H0 e _ fun H1 e1 => ⟨a, rfl, ⟨xs, ex_t (e.trans e1) hx⟩, fun Dl hD =>
  lc_tup (xs := xs) (Cw H1 f v Dl) ⟨hD, Ex.new hD, upd_same⟩ (fun i H' _ p => ex_t ((e.trans e1).trans p.2.1) hx) (fun i x H' hi p => ⟨hw x, cw_turn p (by have := (List.getElem?_eq_some_iff.mp hi).1; omega) (ht i x H1 (e.trans e1) hi) (fun hf => he i x H1 (e.trans e1) hi hf)⟩)
    (fun H' p => q Dl H' (fresh_back e1 p.1) (e1.trans p.2.1) p.2.2)⟩
theorem rv_notN {x : V} : RV (fun x y H Q => y = .non ∧ Q (.bl (!decide (x = .non))) H) x .non H (.bl (!decide (x = .non))) := fun H1 _ Q q => ⟨rfl, q H1 (Ex.refl _)⟩
theorem rc_len {p : Addr} {ys : List V} (h : SqL K H p ys ∨ SqT K H p ys) : RC (fun xs H Q => ∃ p ys, xs = [V.ref p] ∧ (SqL K H p ys ∨ SqT K H p ys) ∧ Q (.int (ys.length : Nat)) H) [.ref p] H (.int (ys.length : Nat)) := fun H1 e Q q => ⟨p, ys, rfl, h.imp (ex_l e) (ex_t e), q H1 (Ex.refl _)⟩
/-- range(n) as a value, its len -/
theorem cr_range1 : CallR X (.type "range") (fun vs H Q => ∃ j, vs = [V.int j] ∧ ∀ p, H p = none → Q (.ref p) (upd H p (.rng 0 j))) := by
  intro pins s σ H vs us Q I r h
  obtain ⟨j, rfl, q⟩ := h
  obtain ⟨u, rfl, t, rfl⟩ := vals1 r
  refine call_range_1 ⟨.ref s.heap.objs.size, upd H s.heap.objs.size (.rng 0 j), I.laid (t' := s.toks + 2) (fun b o e => Heap.get?_push_of_some _ e) (Nat.le_refl _) ?_, rfl, q _ (I.hok.fresh (Nat.le_refl _))⟩
  exact ⟨_, _, _, Heap.get?_push_size _ rfl⟩
theorem rng_len (r : Addr) (a b : Int) (t u v : Tok) (hb : Builtin.Range.rangeSize a b 1 < 2 ^ 63) :
    Meets (Builtin.«range.__len__» ⟨[.ref r], []⟩) (fun _ R s => s.heap.get? r = some { cls := .type "range", dict := none, data := .fields #[.int a t, .int b u, .int 1 v], slots := #[] } ∧ R (.ok (.ret (.int (Builtin.Range.rangeSize a b 1) s.toks))) { s with toks := s.toks + 1 }) :=
  .of_wp fun prog w A R s h => by
    obtain ⟨hp, g, d, tk, os⟩ := s
    obtain ⟨hl, h⟩ := h
    wp_walk using AutoSeq1.wpAny_loadPart' hl
    refine wpAny_ite_split (fun z => absurd z (by omega)) fun _ => ?_
    wp_walk
    exact ⟨_, rfl, h⟩
def rLenR : List V → Hp → VK → Prop := fun vs H Q => ∃ (a : Addr) (n : Nat), vs = [V.ref a] ∧ H a = some (.rng 0 (n : Int)) ∧ n < 2 ^ 62 ∧ Q (.int (n : Int)) H
theorem call_lenR : CallR X (.builtin "len") rLenR := by
  intro pins s σ H vs us Q I r h
  obtain ⟨a, n, rfl, ha, hn, q⟩ := h
  obtain ⟨u, rfl, ru⟩ := r.one
  cases (show u = Value.ref a from ru)
  obtain ⟨t, u, v, ho⟩ := (show ObjOk X.prog X.w H s.heap a (.rng 0 (n : Int)) from I.hok a _ ha)
  have hT : s.TypeIs (.ref a) "range" := ⟨_, ho, rfl⟩
  have e : Builtin.Range.rangeSize 0 (n : Int) 1 = (n : Int) := by
    unfold Builtin.Range.rangeSize
    rw [if_pos (by decide)]
    split <;> omega
  refine Calls.call_function_entry PySem.kind_len PySem.plain_len PySem.entry_len (PySem.args_len1 _) ?_
  unfold Builtin.«len»
  refine wpAny_bind (m := oneArg "len" _) (wpAny_pure ?_)
  refine wpAny_bind (m := callSpecial? (.ref a) (Str.ofString "__len__")) (wpAny_callSpecial?_slot (name := Str.ofString "__len__") hT PySem.F.slot_range_len (call_meets PySem.F.slot_range_len hT PySem.F.entry_range_len (PySem.F.args_range_len_1 _) (rng_len a 0 n t u v (by rw [e]; omega)) ⟨ho, ?_⟩))
  rw [e]
  refine wpAny_bind (wpAny_holding (wpAny_pure ?_))
  refine wpAny_bind (wpAny_letGo ?_)
  refine wpAny_ite_split (fun z => absurd z (by omega)) fun _ => ?_
  refine wpAny_ite_split (fun z => absurd z (by omega)) fun _ => ?_
  exact wpAny_bind (wpAny_mkInt (wpAny_pure ⟨_, rfl, .int (n : Int), H, (I.tok _).tok _, ⟨_, rfl⟩, q⟩))
theorem ev_lenRng {n : Nat} (h : Ev te σ H (.int (n : Int))) (hn : n < 2 ^ 62) : Ev (tCB rLenR (tCons (tCB (fun vs H Q => ∃ j, vs = [V.int j] ∧ ∀ p, H p = none → Q (.ref p) (upd H p (.rng 0 j))) (tCons te tNil)) tNil)) σ H (.int (n : Int)) := fun H1 e Q q =>
  h H1 e _ fun H2 e2 => ⟨_, rfl, fun p hp => ⟨p, n, rfl, upd_same, hn, q _ (e2.trans (Ex.new hp))⟩⟩
end
end L2
/-! tuples that are known to the object: made by tuple(list), searched by index. -/
namespace L2
open PySem PySem.Spec PyProof.Rows _root_.Evl
section
variable {X : Cx} {σ : L2.St} {H H' : Hp} {K : PySem.W.Frag}
/-- a tuple known to its object, which has no dict -/
def FzT (H : Hp) (p : Addr) (xs : List V) : Prop := ∃ o : Obj, H p = some (.frz o (.tup xs)) ∧ o.cls = .type "tuple" ∧ o.dict = none
theorem FzT.sq {p : Addr} {xs : List V} (h : FzT H p xs) : SqT K H p xs := let ⟨o, e, _⟩ := h; .inl (.inr ⟨o, e⟩)
theorem FzT.ex {p : Addr} {xs : List V} (h : FzT H p xs) (e : Ex H H') : FzT H' p xs := let ⟨o, q, r⟩ := h; ⟨o, e _ _ q, r⟩
theorem FzT.ty {p : Addr} {xs : List V} (h : FzT H p xs) : TyX K H (.ref p) (.type "tuple") := let ⟨_, e, _⟩ := h; .fTuple e
theorem FzT.un {p : Addr} {xs ys : List V} (h : FzT H p xs) (h' : FzT H p ys) : xs = ys := by
  obtain ⟨o, e, _⟩ := h
  obtain ⟨o', e', _⟩ := h'
  rw [e] at e'
  cases e'
  rfl
/-- tuple(l), l a list: the new one is known -/
def rTupF (K : PySem.W.Frag) : List V → Hp → VK → Prop := fun xs H Q => ∃ p ys, xs = [.ref p] ∧ SqL K H p ys ∧ ∀ l H2, H l = none → Ex H H2 → FzT H2 l ys → Q (.ref l) H2
theorem call_tupF : CallR X (.type "tuple") (rTupF X.K) := by
  intro pins s σ H xs us Q I r h
  obtain ⟨p, ys, rfl, hq, q⟩ := h
  obtain ⟨u, rfl, rx⟩ := vals1 r
  cases rx
  obtain ⟨its, r', pl, hz⟩ := I.list hq
  have hlen := r'.length
  refine call_tuple_list pl.isList (fun h' kp => ?_) (by simp only [List.size_toArray] <;> omega)
  have I1 : Inv X pins σ H { s with heap := h' } := I.kept (t' := s.toks) kp
  have hn := I1.hok.fresh (Nat.le_refl h'.objs.size)
  have I2 : Inv X pins σ (upd H h'.objs.size (.frz { cls := .type "tuple", data := .seq its.toArray } (.tup ys))) { s with heap := h'.push { cls := .type "tuple", data := .seq its.toArray } } :=
    I1.laid (t' := s.toks) (fun b o e => Heap.get?_push_of_some _ e) (Nat.le_refl _)
      (show ObjOk X.prog X.w _ _ _ (.frz _ (.tup ys)) from ⟨Heap.get?_push_size _ rfl, hz, its, r', IsTup.new _ _⟩)
  exact ⟨.ref h'.objs.size, _, I2, rfl, q _ _ hn (Ex.new hn) ⟨_, upd_same, rfl, rfl⟩⟩
theorem none_back {l : Addr} (e : Ex H H') (h : H' l = none) : H l = none := by
  cases q : H l with
  | none => rfl
  | some o => rw [e _ _ q] at h; cases h
theorem ev_tupF {p : Addr} {ys : List V} {te : TE} {Q : VK} (h : Ev te σ H (.ref p)) (hq : H p = some (.lst ys)) (k : ∀ l H2, H l = none → Ex H H2 → FzT H2 l ys → Q (.ref l) H2) : tCB (rTupF K) (tCons te tNil) σ H Q :=
  h H (Ex.refl _) _ fun H1 e1 => ⟨p, ys, rfl, Or.inl (Or.inl (e1 _ _ hq)), fun l H2 hl e2 h2 => k l H2 (none_back e1 hl) (e1.trans e2) h2⟩
/-- t.index(x), t a known tuple of texts -/
def tTI (to : TE) (t : TA) : TE := fun σ H Q => to σ H fun x H1 => ∃ p, ∃ ys : List Str, x = .ref p ∧ FzT H1 p (ys.map V.str) ∧
  t σ H1 fun xs H2 => ∃ z j, xs = [.str z] ∧ FzT H2 p (ys.map V.str) ∧ ys[j]? = some z ∧ (∀ m, m < j → ys[m]? ≠ some z) ∧ Q (.int (j : Nat)) H2
theorem pe_tupI {o e : Expr} {to : TE} {t : TA} {apos cpos : Pos} (ho : PE X o to) (ha : PA X [e] t)
    (hbase : attributeBase o "index" X.env (eval o X.env) = eval o X.env := by rfl)
    (hfew : ((backTo cpos (starEach [e] X.env)).all (fun x => !x.1) && (backToKw cpos (keywordEach [] X.env)).all (fun x => x.1.isSome)
      && decide ([e].length + ([] : List Keyword).length + (if ([] : List Keyword).isEmpty then 0 else 1) < 30)) = true := by rfl)
    (hline : (apos.endLine == cpos.line) = true := by rfl) (hs : starEach [e] X.env = (false, eval e X.env) :: starEach [] X.env := by rfl) :
    PE X (.Call (.Attribute o "index" apos) [e] [] cpos) (tTI to t) := by
  refine ⟨fun pins s σ H Q I h => ?_⟩
  refine wpAny_Call_method_late hbase hfew hline rfl (thn (ho.run pins s σ H _ I h) fun v s1 ⟨x, H1, I1, r1, p, ys, ex, fz, q1⟩ => ?_)
  subst ex
  cases r1
  have hA := ha.run cpos pins s1 σ H1 _ I1 q1
  obtain ⟨ob, e1, hc, hd⟩ := fz
  have g := (I1.hok p _ e1).1
  refine ⟨"tuple", "tuple.index", PySem.F.plainAttrs_tuple, PySem.F.slot_tuple_index, PySem.F.type_tuple_index, ⟨ob, g, hc⟩, fun a ea => ?_, ?_⟩
  · cases ea
    exact ⟨ob, g, hd⟩
  rw [hs] at hA ⊢
  refine Calls.callWith_builtin (by show (false || (backTo cpos (starEach [] X.env)).any (·.1)) = false; rfl) (Calls.evalArgs_plain ?_)
  exact thn hA fun us s2 ⟨vs, H2, I2, r2, z, j, ez, fz2, hj, hno, q2⟩ => mt_tup_index pins s2 σ H2 (.ref p) vs (.ref p) us Q I2 rfl r2 ⟨p, ys, z, j, rfl, ez, fz2.sq, hj, hno, q2⟩
theorem ev_tupI {to te : TE} {p : Addr} {ys : List Str} {z : Str} {j : Nat} (ho : Ev to σ H (.ref p)) (hz : Ev te σ H (.str z)) (hp : FzT H p (ys.map V.str)) (hj : ys[j]? = some z) (hno : ∀ m, m < j → ys[m]? ≠ some z) :
    Ev (tTI to (tCons te tNil)) σ H (.int (j : Int)) := fun H1 e Q q => ho H1 e _ fun H2 e2 => ⟨p, ys, rfl, hp.ex (e.trans e2), hz H2 (e.trans e2) _ fun H3 e3 => ⟨z, j, rfl, hp.ex ((e.trans e2).trans e3), hj, hno, q H3 (e2.trans e3)⟩⟩
theorem ev_lenF {l : Addr} {xs : List Str} {te : TE} (h : Ev te σ H (.ref l)) (hq : FzT H l (xs.map V.str)) (nd : xs.Nodup) (few : xs.length ≤ 1000) : Ev (tLenT K te) σ H (.int xs.length) := fun H1 e Q q => h H1 e _ fun H2 e2 => ⟨l, xs, rfl, (hq.ex (e.trans e2)).sq, nd, few, q H2 e2⟩
end
end L2
/-! instances of another own class than the one asked for. -/
namespace L2
open PySem PySem.Spec PyProof.Rows _root_.Evl
/-- D is another own class than C, and no == of it goes first -/
structure Oth (K : PySem.W.Frag) (C D : Addr) : Prop where
  cl : Cls K D
  is : IsC K D
  kit : PySem.W.kitOne K (.ref D) (.ref C) = some false
  nf : PySem.W.notFirst K C (.ref D) = true
def othB (K : PySem.W.Frag) (x y : Str) : Bool := decide (PySem.W.kitOne K (.ref (He.ga K y)) (.ref (He.ga K x)) = some false) && PySem.W.notFirst K (He.ga K x) (.ref (He.ga K y))
theorem othB_ok {K : PySem.W.Frag} {x y : Str} (c : Cls K (He.ga K y)) (i : IsC K (He.ga K y)) (h : othB K x y = true) : Oth K (He.ga K x) (He.ga K y) := by
  obtain ⟨h1, h2⟩ := He.ba h
  exact ⟨c, i, of_decide_eq_true h1, h2⟩
/-- y is an instance of another own class than C -/
def OthI (K : PySem.W.Frag) (C : Addr) (y : V) (H : Hp) : Prop := ∃ (z D dz : Addr) (fs : List (Str × V)), y = .ref z ∧ H z = some (.ins D dz fs) ∧ Oth K C D
section
variable {K : PySem.W.Frag} {C : Addr} {y : V} {H H' : Hp}
theorem OthI.ex (h : OthI K C y H) (e : Ex H H') : OthI K C y H' := by
  obtain ⟨z, D, dz, fs, hy, hz, o⟩ := h
  exact ⟨z, D, dz, fs, hy, e _ _ hz, o⟩
theorem rc_isiO (h : OthI K C y H) : RC (rIsi K) [y, .ref C] H (.bl false) := by
  obtain ⟨z, D, dz, fs, rfl, hz, o⟩ := h
  exact rc_isi (.own C) (fun _ e => .base (.ins (e _ _ hz) o.cl o.is.ha o.is.hn o.is.htk o.is.hm)) o.kit
theorem OthI.not {z dz : Addr} {fs : List (Str × V)} (h : OthI K C (.ref z) H) (hz : H z = some (.ins C dz fs)) : False := by
  obtain ⟨z', D, dz', fs', e, hz', o⟩ := h
  cases e
  rw [hz] at hz'
  injection hz' with hz'
  injection hz' with h1
  subst h1
  have := o.kit
  rw [kit_self] at this
  cases this
end
end L2
/-! The layer without heaps: data, stores of what may change, and what a reading does with them. -/
namespace Dl
open PySem PySem.Spec PyProof.Rows L2 _root_.Evl
/-- data: what never changes -/
inductive D where
  | non | bl (b : Bool) | int (i : Int) | str (x : Str) | ty (n : String) | glo (x : Str)
  | tup (ds : List D) | ftup (ds : List D) | lst (ds : List D) | flst (ds : List D) | ins (c : Str) (fs : List (Str × D)) | dic (ks : List (Key × D))
mutual
/-- the data d stands at v; X: what may change, and is no part of data -/
inductive Rep (K : PySem.W.Frag) (X : Addr → Prop) (H : Hp) : D → V → Prop
  | non : Rep K X H .non .non
  | bl (b : Bool) : Rep K X H (.bl b) (.bl b)
  | int (i : Int) : Rep K X H (.int i) (.int i)
  | str (x : Str) : Rep K X H (.str x) (.str x)
  | ty (n : String) : Rep K X H (.ty n) (.ty n)
  | glo (x : Str) : Rep K X H (.glo x) (.ref (He.ga K x))
  | tup {a : Addr} {ds : List D} {xs : List V} : ¬ X a → Rd H a (.tup xs) → RepL K X H ds xs → Rep K X H (.tup ds) (.ref a)
  | ftup {a : Addr} {ds : List D} {xs : List V} : ¬ X a → FzT H a xs → RepL K X H ds xs → Rep K X H (.ftup ds) (.ref a)
  | lst {a : Addr} {ds : List D} {xs : List V} : ¬ X a → H a = some (.lst xs) → RepL K X H ds xs → Rep K X H (.lst ds) (.ref a)
  | flst {a : Addr} {ds : List D} {xs : List V} : ¬ X a → Rd H a (.lst xs) → RepL K X H ds xs → Rep K X H (.flst ds) (.ref a)
  | dic {a : Addr} {ks : List (Key × D)} {gs : List (Key × V)} : ¬ X a → H a = some (.dK gs) → RepK K X H ks gs → Rep K X H (.dic ks) (.ref a)
  | ins {a dx : Addr} {c : Str} {fs : List (Str × D)} {gs : List (Str × V)} : ¬ X a → H a = some (.ins (He.ga K c) dx gs) → RepF K X H fs gs → Rep K X H (.ins c fs) (.ref a)
  | ktup {a : Addr} {ds : List D} {xs : List V} : (∀ H' : Hp, SqT K H' a xs) → RepL K X H ds xs → Rep K X H (.tup ds) (.ref a)
  | klst {a : Addr} {ds : List D} {xs : List V} : (∀ H' : Hp, SqL K H' a xs) → RepL K X H ds xs → Rep K X H (.flst ds) (.ref a)
inductive RepL (K : PySem.W.Frag) (X : Addr → Prop) (H : Hp) : List D → List V → Prop
  | nil : RepL K X H [] []
  | cons {d : D} {v : V} {ds : List D} {vs : List V} : Rep K X H d v → RepL K X H ds vs → RepL K X H (d :: ds) (v :: vs)
inductive RepF (K : PySem.W.Frag) (X : Addr → Prop) (H : Hp) : List (Str × D) → List (Str × V) → Prop
  | nil : RepF K X H [] []
  | cons {x : Str} {d : D} {v : V} {fs : List (Str × D)} {gs : List (Str × V)} : Rep K X H d v → RepF K X H fs gs → RepF K X H ((x, d) :: fs) ((x, v) :: gs)
inductive RepK (K : PySem.W.Frag) (X : Addr → Prop) (H : Hp) : List (Key × D) → List (Key × V) → Prop
  | nil : RepK K X H [] []
  | cons {x : Key} {d : D} {v : V} {fs : List (Key × D)} {gs : List (Key × V)} : Rep K X H d v → RepK K X H fs gs → RepK K X H ((x, d) :: fs) ((x, v) :: gs)
end
/-- what is no part of X stays; X grows by new things alone -/
structure Gw (X : Addr → Prop) (H : Hp) (X' : Addr → Prop) (H' : Hp) : Prop where
  x : ∀ a, X' a → X a ∨ H a = none
  h : ∀ a o, ¬ X a → H a = some o → H' a = some o
section
variable {K : PySem.W.Frag} {X X' X1 X2 : Addr → Prop} {H H' H1 H2 : Hp}
theorem Gw.refl : Gw X H X H := ⟨fun _ h => .inl h, fun _ _ _ h => h⟩
theorem Gw.no (g : Gw X H X' H') {a : Addr} {o : HO} (n : ¬ X a) (h : H a = some o) : ¬ X' a := fun z => by
  rcases g.x a z with q | q
  · exact n q
  · rw [h] at q
    cases q
theorem Gw.trans (g : Gw X H X1 H1) (g' : Gw X1 H1 X2 H2) : Gw X H X2 H2 := by
  refine ⟨fun a z => ?_, fun a o n h => g'.h a o (g.no n h) (g.h a o n h)⟩
  rcases g'.x a z with q | q
  · exact g.x a q
  · cases e : H a with
    | none => exact .inr rfl
    | some o =>
      by_cases n : X a
      · exact .inl n
      · rw [g.h a o n e] at q
        cases q
theorem Gw.ex (e : Ex H H') : Gw X H X H' := ⟨fun _ h => .inl h, fun a o _ h => e a o h⟩
theorem Gw.rd (g : Gw X H X' H') {a : Addr} {u : HO} (n : ¬ X a) (h : Rd H a u) : ¬ X' a ∧ Rd H' a u := by
  rcases h with h | ⟨o, h⟩
  · exact ⟨g.no n h, .inl (g.h a _ n h)⟩
  · exact ⟨g.no n h, .inr ⟨o, g.h a _ n h⟩⟩
mutual
theorem Rep.go (g : Gw X H X' H') : ∀ {d : D} {v : V}, Rep K X H d v → Rep K X' H' d v
  | _, _, .non => .non
  | _, _, .bl b => .bl b
  | _, _, .int i => .int i
  | _, _, .str x => .str x
  | _, _, .ty n => .ty n
  | _, _, .glo x => .glo x
  | _, _, .tup n h l => .tup (g.rd n h).1 (g.rd n h).2 (RepL.go g l)
  | _, _, .ftup n h l => let ⟨o, e, r⟩ := h; .ftup (g.no n e) ⟨o, g.h _ _ n e, r⟩ (RepL.go g l)
  | _, _, .lst n h l => .lst (g.no n h) (g.h _ _ n h) (RepL.go g l)
  | _, _, .flst n h l => .flst (g.rd n h).1 (g.rd n h).2 (RepL.go g l)
  | _, _, .dic n h l => .dic (g.no n h) (g.h _ _ n h) (RepK.go g l)
  | _, _, .ins n h l => .ins (g.no n h) (g.h _ _ n h) (RepF.go g l)
  | _, _, .ktup h l => .ktup h (RepL.go g l)
  | _, _, .klst h l => .klst h (RepL.go g l)
theorem RepL.go (g : Gw X H X' H') : ∀ {ds : List D} {vs : List V}, RepL K X H ds vs → RepL K X' H' ds vs
  | _, _, .nil => .nil
  | _, _, .cons h t => .cons (Rep.go g h) (RepL.go g t)
theorem RepF.go (g : Gw X H X' H') : ∀ {fs : List (Str × D)} {gs : List (Str × V)}, RepF K X H fs gs → RepF K X' H' fs gs
  | _, _, .nil => .nil
  | _, _, .cons h t => .cons (Rep.go g h) (RepF.go g t)
theorem RepK.go (g : Gw X H X' H') : ∀ {fs : List (Key × D)} {gs : List (Key × V)}, RepK K X H fs gs → RepK K X' H' fs gs
  | _, _, .nil => .nil
  | _, _, .cons h t => .cons (Rep.go g h) (RepK.go g t)
end
/-- fewer things that may change -/
theorem Gw.less (h : ∀ a, X' a → X a) : Gw X H X' H := ⟨fun a z => .inl (h a z), fun _ _ _ e => e⟩
theorem RepL.length : ∀ {ds : List D} {vs : List V}, RepL K X H ds vs → ds.length = vs.length
  | _, _, .nil => rfl
  | _, _, .cons _ t => congrArg (· + 1) t.length
theorem RepL.get : ∀ {ds : List D} {vs : List V} {i : Nat} {d : D}, RepL K X H ds vs → ds[i]? = some d → ∃ v, vs[i]? = some v ∧ Rep K X H d v
  | _, _, _, _, .nil, e => by simp at e
  | _, _, 0, _, .cons h _, e => by simp at e; subst e; exact ⟨_, rfl, h⟩
  | _, _, i + 1, d, .cons _ t, e => by
    obtain ⟨v, h1, h2⟩ := RepL.get (i := i) (d := d) t (by simpa using e)
    exact ⟨v, by simpa using h1, h2⟩
theorem RepL.get' : ∀ {ds : List D} {vs : List V} {i : Nat} {v : V}, RepL K X H ds vs → vs[i]? = some v → ∃ d, ds[i]? = some d ∧ Rep K X H d v
  | _, _, _, _, .nil, e => by simp at e
  | _, _, 0, _, .cons h _, e => by simp at e; subst e; exact ⟨_, rfl, h⟩
  | _, _, i + 1, d, .cons _ t, e => by
    obtain ⟨v, h1, h2⟩ := RepL.get' (i := i) (v := d) t (by simpa using e)
    exact ⟨v, by simpa using h1, h2⟩
theorem RepL.append : ∀ {ds es : List D} {vs ws : List V}, RepL K X H ds vs → RepL K X H es ws → RepL K X H (ds ++ es) (vs ++ ws)
  | _, _, _, _, .nil, s => s
  | _, _, _, _, .cons h t, s => .cons h (RepL.append t s)
theorem RepL.set {d : D} {v : V} (h : Rep K X H d v) : ∀ {ds : List D} {vs : List V} (i : Nat), RepL K X H ds vs → RepL K X H (ds.set i d) (vs.set i v)
  | _, _, _, .nil => .nil
  | _, _, 0, .cons _ t => .cons h t
  | _, _, i + 1, .cons q t => .cons q (RepL.set h i t)
theorem RepL.take : ∀ {ds : List D} {vs : List V} (n : Nat), RepL K X H ds vs → RepL K X H (ds.take n) (vs.take n)
  | _, _, 0, _ => by simp; exact .nil
  | _, _, n + 1, .nil => by simp; exact .nil
  | _, _, n + 1, .cons h t => by simp; exact .cons h (RepL.take n t)
theorem RepL.drop : ∀ {ds : List D} {vs : List V} (n : Nat), RepL K X H ds vs → RepL K X H (ds.drop n) (vs.drop n)
  | _, _, 0, h => by simpa using h
  | _, _, n + 1, .nil => by simp; exact .nil
  | _, _, n + 1, .cons h t => by simpa using RepL.drop n t
theorem RepL.reverse {ds : List D} {vs : List V} (h : RepL K X H ds vs) : RepL K X H ds.reverse vs.reverse := by
  induction ds generalizing vs with
  | nil => cases h; exact .nil
  | cons d ds ih => cases h with | cons h t => simp; exact (ih t).append (.cons h .nil)
theorem RepF.get : ∀ {fs : List (Str × D)} {gs : List (Str × V)} {x : Str} {d : D}, RepF K X H fs gs → fs.lookup x = some d → ∃ v, gs.lookup x = some v ∧ Rep K X H d v
  | _, _, _, _, .nil, e => by cases e
  | _, _, y, d, .cons (x := x) h t, e => by
    unfold List.lookup at e ⊢
    cases q : y == x with
    | true => rw [q] at e; cases e; exact ⟨_, rfl, h⟩
    | false => rw [q] at e; exact RepF.get t e
theorem RepF.no : ∀ {fs : List (Str × D)} {gs : List (Str × V)} {x : Str}, RepF K X H fs gs → fs.lookup x = none → gs.lookup x = none
  | _, _, _, .nil, _ => rfl
  | _, _, y, .cons (x := x) h t, e => by
    unfold List.lookup at e ⊢
    cases q : y == x with
    | true => rw [q] at e; cases e
    | false => rw [q] at e; exact RepF.no t e
end
/-! ### stores -/
inductive MO where
  | ls (ds : List D) | ob (c : Str) (fs : List (Str × D)) | dc (ks : List (Key × D)) | dead
abbrev Store := List MO
/-- what lives in a store -/
def Lv (A : List Addr) (S : Store) (a : Addr) : Prop := ∃ (k : Nat) (m : MO), A[k]? = some a ∧ S[k]? = some m ∧ m ≠ MO.dead
def MOk (K : PySem.W.Frag) (X : Addr → Prop) (H : Hp) (a : Addr) : MO → Prop
  | .ls ds => ∃ xs, H a = some (.lst xs) ∧ RepL K X H ds xs
  | .ob c fs => ∃ dx gs, H a = some (.ins (He.ga K c) dx gs) ∧ RepF K X H fs gs
  | .dc ks => ∃ gs, H a = some (.dK gs) ∧ RepK K X H ks gs
  | .dead => ∃ o, H a = some o
structure SOk (K : PySem.W.Frag) (A : List Addr) (S : Store) (H : Hp) : Prop where
  len : A.length = S.length
  nd : A.Nodup
  ok : ∀ (k : Nat) (a : Addr) (m : MO), A[k]? = some a → S[k]? = some m → MOk K (Lv A S) H a m
/-- what comes of an expression: data, or a thing of the store -/
inductive R where
  | dat (d : D) | mu (k : Nat) | no
def RepR (K : PySem.W.Frag) (A : List Addr) (S : Store) (H : Hp) : R → V → Prop
  | .dat d, v => Rep K (Lv A S) H d v
  | .mu k, v => ∃ a, A[k]? = some a ∧ v = .ref a
  | .no, _ => False
abbrev RepRs (K : PySem.W.Frag) (A : List Addr) (S : Store) (H : Hp) : List R → List V → Prop := Paired (RepR K A S H)
structure EnvOk (K : PySem.W.Frag) (A : List Addr) (S : Store) (H : Hp) (ρ : List R) (σ : L2.St) : Prop where
  len : ρ.length = σ.length
  at' : ∀ (i : Nat) (r : R), ρ[i]? = some r → r = .no ∨ ∃ v, σ[i]? = some (some v) ∧ RepR K A S H r v
structure Fr (K : PySem.W.Frag) (A : List Addr) (S : Store) (H : Hp) (ρ : List R) (σ : L2.St) : Prop where
  st : SOk K A S H
  en : EnvOk K A S H ρ σ
structure Gr (A : List Addr) (S : Store) (H : Hp) (A' : List Addr) (S' : Store) (H' : Hp) : Prop where
  pre : A <+: A'
  gw : Gw (Lv A S) H (Lv A' S') H'
section
variable {K : PySem.W.Frag} {A A' A1 A2 : List Addr} {S S' S1 S2 : Store} {H H' H1 H2 : Hp} {ρ : List R} {σ : L2.St}
theorem Gr.refl : Gr A S H A S H := ⟨List.prefix_refl _, .refl⟩
theorem Gr.trans (g : Gr A S H A1 S1 H1) (g' : Gr A1 S1 H1 A2 S2 H2) : Gr A S H A2 S2 H2 := ⟨g.pre.trans g'.pre, g.gw.trans g'.gw⟩
theorem Gr.ex (e : Ex H H') : Gr A S H A S H' := ⟨List.prefix_refl _, .ex e⟩
theorem pre_get {α : Type} {A A' : List α} (p : A <+: A') {k : Nat} {a : α} (h : A[k]? = some a) : A'[k]? = some a := by
  obtain ⟨t, rfl⟩ := p
  rw [List.getElem?_append_left (List.getElem?_eq_some_iff.mp h).1]
  exact h
theorem nd_inj {A : List Addr} (h : A.Nodup) {i j : Nat} {a : Addr} (hi : A[i]? = some a) (hj : A[j]? = some a) : i = j := by
  obtain ⟨l1, e1⟩ := List.getElem?_eq_some_iff.mp hi
  obtain ⟨l2, e2⟩ := List.getElem?_eq_some_iff.mp hj
  have q := List.pairwise_iff_getElem.mp h
  by_cases c : i = j
  · exact c
  · rcases Nat.lt_or_gt_of_ne c with z | z
    · exact absurd (e1.trans e2.symm) (q i j l1 l2 z)
    · exact absurd (e2.trans e1.symm) (q j i l2 l1 z)
theorem RepR.go (g : Gr A S H A' S' H') : ∀ {r : R} {v : V}, RepR K A S H r v → RepR K A' S' H' r v
  | .dat _, _, h => Rep.go g.gw h
  | .mu _, _, ⟨a, h, e⟩ => ⟨a, pre_get g.pre h, e⟩
  | .no, _, h => h
theorem RepRs.go (g : Gr A S H A' S' H') : ∀ {rs : List R} {vs : List V}, RepRs K A S H rs vs → RepRs K A' S' H' rs vs
  | _, _, .nil => .nil
  | _, _, .cons h t => .cons (RepR.go g h) (RepRs.go g t)
theorem EnvOk.go (g : Gr A S H A' S' H') (h : EnvOk K A S H ρ σ) : EnvOk K A' S' H' ρ σ := ⟨h.len, fun i r e => by
  rcases h.at' i r e with q | ⟨v, q, p⟩
  · exact .inl q
  · exact .inr ⟨v, q, p.go g⟩⟩
theorem EnvOk.set (h : EnvOk K A S H ρ σ) (i : Nat) {r : R} {v : V} (p : RepR K A S H r v) : EnvOk K A S H (ρ.set i r) (σ.set i (some v)) := ⟨by rw [List.length_set, List.length_set]; exact h.len, fun j q e => by
  have lj : j < (ρ.set i r).length := (List.getElem?_eq_some_iff.mp e).1
  rw [List.length_set] at lj
  by_cases hj : i = j
  · subst hj
    rw [List.getElem?_set_self lj] at e
    cases e
    exact .inr ⟨v, List.getElem?_set_self (by rw [← h.len]; exact lj), p⟩
  · rw [List.getElem?_set_ne hj] at e
    rw [List.getElem?_set_ne hj]
    exact h.at' j q e⟩
theorem MOk.go {X X' : Addr → Prop} (g : Gw X H X' H') {a : Addr} : ∀ {m : MO}, (∀ o, H a = some o → H' a = some o) → MOk K X H a m → MOk K X' H' a m
  | .ls _, k, ⟨xs, h, l⟩ => ⟨xs, k _ h, l.go g⟩
  | .ob _ _, k, ⟨dx, gs, h, l⟩ => ⟨dx, gs, k _ h, l.go g⟩
  | .dc _, k, ⟨gs, h, l⟩ => ⟨gs, k _ h, l.go g⟩
  | .dead, k, ⟨o, h⟩ => ⟨o, k _ h⟩
theorem SOk.ex (h : SOk K A S H) (e : Ex H H') : SOk K A S H' := ⟨h.len, h.nd, fun k a m ha hm => MOk.go (.ex e) (fun o q => e a o q) (h.ok k a m ha hm)⟩
theorem SOk.dom (h : SOk K A S H) {a : Addr} (l : Lv A S a) : H a ≠ none := by
  obtain ⟨k, m, ha, hm, nm⟩ := l
  have q := h.ok k a m ha hm
  cases m with
  | ls ds => obtain ⟨xs, e, _⟩ := q; rw [e]; nofun
  | ob c fs => obtain ⟨dx, gs, e, _⟩ := q; rw [e]; nofun
  | dc ks => obtain ⟨gs, e, _⟩ := q; rw [e]; nofun
  | dead => exact absurd rfl nm
theorem SOk.new (h : SOk K A S H) {p : Addr} (hp : H p = none) : ¬ Lv A S p := fun l => h.dom l hp
theorem Fr.go (g : Gr A S H A' S' H') (h : Fr K A S H ρ σ) (so : SOk K A' S' H') : Fr K A' S' H' ρ σ := ⟨so, h.en.go g⟩
theorem Fr.var (h : Fr K A S H ρ σ) {i : Nat} {r : R} (e : ρ[i]? = some r) (n : r ≠ .no) : ∃ v, σ[i]? = some (some v) ∧ RepR K A S H r v := by
  rcases h.en.at' i r e with q | q
  · exact absurd q n
  · exact q
/-- one thing of the store is put otherwise -/
theorem SOk.put (h : SOk K A S H) {k : Nat} {a : Addr} {m m' : MO} {o : HO} (ha : A[k]? = some a) (hm : S[k]? = some m) (nm : m ≠ .dead) (nm' : m' ≠ .dead)
    (hk : ∀ X : Addr → Prop, MOk K (Lv A S) H a m → Gw (Lv A S) H X (upd H a o) → MOk K X (upd H a o) a m') : SOk K A (S.set k m') (upd H a o) ∧ Gr A S H A (S.set k m') (upd H a o) := by
  have lk : k < S.length := (List.getElem?_eq_some_iff.mp hm).1
  have lv : ∀ b, Lv A (S.set k m') b → Lv A S b := fun b ⟨j, x, hb, hx, nx⟩ => by
    by_cases hj : k = j
    · subst hj
      exact ⟨k, m, hb, hm, nm⟩
    · rw [List.getElem?_set_ne hj] at hx
      exact ⟨j, x, hb, hx, nx⟩
  have g : Gw (Lv A S) H (Lv A (S.set k m')) (upd H a o) := ⟨fun b z => .inl (lv b z), fun b u n hb => by
    have ne : b ≠ a := fun z => n (z ▸ ⟨k, m, ha, hm, nm⟩)
    rw [upd_ne ne]
    exact hb⟩
  refine ⟨⟨by rw [List.length_set]; exact h.len, h.nd, fun j b x hb hx => ?_⟩, List.prefix_refl _, g⟩
  by_cases hj : k = j
  · subst hj
    rw [List.getElem?_set_self lk] at hx
    cases hx
    rw [ha] at hb
    cases hb
    exact hk _ (h.ok k a m ha hm) g
  · rw [List.getElem?_set_ne hj] at hx
    have ne : b ≠ a := fun z => by
      subst z
      exact hj (nd_inj h.nd ha hb)
    exact MOk.go g (fun u q => by rw [upd_ne ne]; exact q) (h.ok j b x hb hx)
theorem SOk.dom' (h : SOk K A S H) {a : Addr} (l : a ∈ A) : H a ≠ none := by
  obtain ⟨k, lk, e⟩ := List.getElem_of_mem l
  have ls : k < S.length := by rw [← h.len]; exact lk
  have q := h.ok k a S[k] (by rw [List.getElem?_eq_getElem lk, e]) (List.getElem?_eq_getElem ls)
  cases hm : S[k] with
  | ls ds => rw [hm] at q; obtain ⟨xs, e, _⟩ := q; rw [e]; nofun
  | ob c fs => rw [hm] at q; obtain ⟨dx, gs, e, _⟩ := q; rw [e]; nofun
  | dc ks => rw [hm] at q; obtain ⟨gs, e, _⟩ := q; rw [e]; nofun
  | dead => rw [hm] at q; obtain ⟨o, e⟩ := q; rw [e]; nofun
/-- a new thing of the store -/
theorem SOk.add (h : SOk K A S H) {p : Addr} {m : MO} {o : HO} (hp : H p = none) (hk : ∀ X : Addr → Prop, Gw (Lv A S) H X (upd H p o) → MOk K X (upd H p o) p m) : SOk K (A ++ [p]) (S ++ [m]) (upd H p o) ∧ Gr A S H (A ++ [p]) (S ++ [m]) (upd H p o) := by
  have nl : p ∉ A := fun z => h.dom' z hp
  have ex : Ex H (upd H p o) := Ex.new hp
  have lv : ∀ b, Lv (A ++ [p]) (S ++ [m]) b → Lv A S b ∨ b = p := fun b ⟨j, x, hb, hx, nx⟩ => by
    by_cases hj : j < A.length
    · rw [List.getElem?_append_left hj] at hb
      rw [List.getElem?_append_left (by rw [← h.len]; exact hj)] at hx
      exact .inl ⟨j, x, hb, hx, nx⟩
    · rw [List.getElem?_append_right (by omega)] at hb
      have hm := List.mem_of_getElem? hb
      exact .inr (List.mem_singleton.mp hm)
  have g : Gw (Lv A S) H (Lv (A ++ [p]) (S ++ [m])) (upd H p o) := ⟨fun b z => by
    rcases lv b z with q | rfl
    · exact .inl q
    · exact .inr hp, fun b u _ hb => ex b u hb⟩
  refine ⟨⟨by rw [List.length_append, List.length_append, h.len]; rfl, ?_, fun j b x hb hx => ?_⟩, List.prefix_append _ _, g⟩
  · exact List.nodup_append.mpr ⟨h.nd, (by simp), fun a ha b hb e => nl (by rw [← List.mem_singleton.mp hb, ← e]; exact ha)⟩
  · by_cases hj : j < A.length
    · rw [List.getElem?_append_left hj] at hb
      rw [List.getElem?_append_left (by rw [← h.len]; exact hj)] at hx
      exact MOk.go g (fun u q => ex b u q) (h.ok j b x hb hx)
    · rw [List.getElem?_append_right (by omega)] at hb
      rw [List.getElem?_append_right (by rw [← h.len]; omega), ← h.len] at hx
      have ej : j - A.length = 0 := by
        have := (List.getElem?_eq_some_iff.mp hb).1
        simp at this
        omega
      rw [ej] at hb hx
      cases hb
      cases hx
      exact hk _ g
/-- a thing of the store becomes data -/
theorem SOk.freeze (h : SOk K A S H) {k : Nat} {m : MO} (hm : S[k]? = some m) : SOk K A (S.set k .dead) H ∧ Gr A S H A (S.set k .dead) H := by
  have lv : ∀ b, Lv A (S.set k .dead) b → Lv A S b := fun b ⟨j, x, hb, hx, nx⟩ => by
    have lk : k < S.length := (List.getElem?_eq_some_iff.mp hm).1
    by_cases hj : k = j
    · subst hj
      rw [List.getElem?_set_self lk] at hx
      cases hx
      exact absurd rfl nx
    · rw [List.getElem?_set_ne hj] at hx
      exact ⟨j, x, hb, hx, nx⟩
  have g : Gw (Lv A S) H (Lv A (S.set k .dead)) H := .less lv
  refine ⟨⟨by rw [List.length_set]; exact h.len, h.nd, fun j b x hb hx => ?_⟩, List.prefix_refl _, g⟩
  have lk : k < S.length := (List.getElem?_eq_some_iff.mp hm).1
  by_cases hj : k = j
  · subst hj
    rw [List.getElem?_set_self lk] at hx
    cases hx
    have q := h.dom' (List.mem_of_getElem? hb)
    cases e : H b with
    | none => exact absurd e q
    | some o => exact ⟨o, e⟩
  · rw [List.getElem?_set_ne hj] at hx
    exact MOk.go g (fun u q => q) (h.ok j b x hb hx)
/-- fewer things of the store: those behind are forgotten -/
theorem SOk.cut (h : SOk K (A ++ A1) S H) : SOk K A (S.take A.length) H ∧ Gw (Lv (A ++ A1) S) H (Lv A (S.take A.length)) H := by
  have la : A.length ≤ S.length := by rw [← h.len, List.length_append]; omega
  have up : ∀ {j x}, (S.take A.length)[j]? = some x → S[j]? = some x := fun {j x} e => by
    have lj := (List.getElem?_eq_some_iff.mp e).1
    rw [List.length_take] at lj
    rw [List.getElem?_take_of_lt (by omega)] at e
    exact e
  have ua : ∀ {j x}, A[j]? = some x → (A ++ A1)[j]? = some x := fun {j x} e => by
    rw [List.getElem?_append_left (List.getElem?_eq_some_iff.mp e).1]
    exact e
  have g : Gw (Lv (A ++ A1) S) H (Lv A (S.take A.length)) H := .less fun b ⟨j, x, hb, hx, nx⟩ => ⟨j, x, ua hb, up hx, nx⟩
  refine ⟨⟨by rw [List.length_take]; omega, (List.nodup_append.mp h.nd).1, fun j b x hb hx => ?_⟩, g⟩
  exact MOk.go g (fun u q => q) (h.ok j b x (ua hb) (up hx))
end
end Dl
/-! What a reading does, told without heaps. -/
namespace Dl
open PySem PySem.Spec PyProof.Rows L2 _root_.Evl
/-- the expression's reading brings what Φ says -/
def Wp (K : PySem.W.Frag) (te : TE) (ρ : List R) (S : Store) (Φ : R → Store → Prop) : Prop := ∀ (A : List Addr) (σ : L2.St) (H : Hp), Fr K A S H ρ σ → ∀ Q : VK,
  (∀ (r : R) (S' : Store) (A' : List Addr) (v : V) (H' : Hp), Φ r S' → Gr A S H A' S' H' → SOk K A' S' H' → RepR K A' S' H' r v → Q v H') → te σ H Q
def WpT (K : PySem.W.Frag) (tt : TT) (ρ : List R) (S : Store) (Φ : Bool → Store → Prop) : Prop := ∀ (A : List Addr) (σ : L2.St) (H : Hp), Fr K A S H ρ σ → ∀ Q : Bool → Hp → Prop,
  (∀ (b : Bool) (S' : Store) (A' : List Addr) (H' : Hp), Φ b S' → Gr A S H A' S' H' → SOk K A' S' H' → Q b H') → tt σ H Q
def WpA (K : PySem.W.Frag) (ta : TA) (ρ : List R) (S : Store) (Φ : List R → Store → Prop) : Prop := ∀ (A : List Addr) (σ : L2.St) (H : Hp), Fr K A S H ρ σ → ∀ Q : List V → Hp → Prop,
  (∀ (rs : List R) (S' : Store) (A' : List Addr) (vs : List V) (H' : Hp), Φ rs S' → Gr A S H A' S' H' → SOk K A' S' H' → RepRs K A' S' H' rs vs → Q vs H') → ta σ H Q
def WpO (K : PySem.W.Frag) (to : TO) (ρ : List R) (S : Store) (Φ : Option Int → Store → Prop) : Prop := ∀ (A : List Addr) (σ : L2.St) (H : Hp), Fr K A S H ρ σ → ∀ Q : Option Int → Hp → Prop,
  (∀ (o : Option Int) (S' : Store) (A' : List Addr) (H' : Hp), Φ o S' → Gr A S H A' S' H' → SOk K A' S' H' → Q o H') → to σ H Q
/-- what is wanted behind a statement -/
abbrev PR := List R → Store → Prop
structure EOk (K : PySem.W.Frag) (A : List Addr) (S : Store) (H : Hp) (D : Ends) (Nx : PR) (Rt : R → Store → Prop) (Bk Ct : PR) : Prop where
  nx : ∀ (ρ' : List R) (S' : Store) (A' : List Addr) (σ' : L2.St) (H' : Hp), Nx ρ' S' → Gr A S H A' S' H' → Fr K A' S' H' ρ' σ' → D.nx σ' H'
  rt : ∀ (r : R) (S' : Store) (A' : List Addr) (v : V) (H' : Hp), Rt r S' → Gr A S H A' S' H' → SOk K A' S' H' → RepR K A' S' H' r v → D.rt v H'
  bk : ∀ (ρ' : List R) (S' : Store) (A' : List Addr) (σ' : L2.St) (H' : Hp), Bk ρ' S' → Gr A S H A' S' H' → Fr K A' S' H' ρ' σ' → D.bk σ' H'
  ct : ∀ (ρ' : List R) (S' : Store) (A' : List Addr) (σ' : L2.St) (H' : Hp), Ct ρ' S' → Gr A S H A' S' H' → Fr K A' S' H' ρ' σ' → D.ct σ' H'
def WpS (K : PySem.W.Frag) (t : TS) (ρ : List R) (S : Store) (Nx : PR) (Rt : R → Store → Prop) (Bk Ct : PR) : Prop := ∀ (A : List Addr) (σ : L2.St) (H : Hp), Fr K A S H ρ σ → ∀ D : Ends, EOk K A S H D Nx Rt Bk Ct → t D σ H
/-- operations on what came -/
def Op2 (K : PySem.W.Frag) (r : R2) (x y : R) (S : Store) (Φ : R → Prop) : Prop := ∀ (A : List Addr) (H : Hp) (v w : V), SOk K A S H → RepR K A S H x v → RepR K A S H y w → ∀ Q : VK,
  (∀ (z : R) (u : V) (H' : Hp), Φ z → Ex H H' → RepR K A S H' z u → Q u H') → r v w H Q
def Op1 (K : PySem.W.Frag) (r : V → Hp → VK → Prop) (x : R) (S : Store) (Φ : R → Prop) : Prop := ∀ (A : List Addr) (H : Hp) (v : V), SOk K A S H → RepR K A S H x v → ∀ Q : VK,
  (∀ (z : R) (u : V) (H' : Hp), Φ z → Ex H H' → RepR K A S H' z u → Q u H') → r v H Q
def Cb (K : PySem.W.Frag) (r : List V → Hp → VK → Prop) (xs : List R) (S : Store) (Φ : R → Prop) : Prop := ∀ (A : List Addr) (H : Hp) (vs : List V), SOk K A S H → RepRs K A S H xs vs → ∀ Q : VK,
  (∀ (z : R) (u : V) (H' : Hp), Φ z → Ex H H' → RepR K A S H' z u → Q u H') → r vs H Q
def dats : List R → Option (List D)
  | [] => some []
  | .dat d :: rs => match dats rs with
    | some ds => some (d :: ds)
    | none => none
  | _ :: _ => none
section
variable {K : PySem.W.Frag} {A A' A1 A2 : List Addr} {S S' S1 S2 : Store} {H H' H1 H2 : Hp} {ρ : List R} {σ : L2.St} {De : Ends} {Nx Bk Ct : PR} {Rt : R → Store → Prop} {Φ : R → Store → Prop} {te ta tb tc : TE} {tt tu : TT} {tl : TA} {t u : TS}
theorem EOk.go (e : EOk K A S H De Nx Rt Bk Ct) (g : Gr A S H A1 S1 H1) : EOk K A1 S1 H1 De Nx Rt Bk Ct :=
  ⟨fun a b c d f p q r => e.nx a b c d f p (g.trans q) r, fun a b c d f p q r s => e.rt a b c d f p (g.trans q) r s, fun a b c d f p q r => e.bk a b c d f p (g.trans q) r, fun a b c d f p q r => e.ct a b c d f p (g.trans q) r⟩
theorem dats_rep {rs : List R} {ds : List D} {vs : List V} (h : dats rs = some ds) (r : RepRs K A S H rs vs) : RepL K (Lv A S) H ds vs := by
  induction rs generalizing ds vs with
  | nil => cases h; cases r; exact .nil
  | cons x rs ih =>
    cases r with
    | cons a b =>
      cases x with
      | dat d =>
        unfold dats at h
        cases q : dats rs with
        | none => rw [q] at h; cases h
        | some es => rw [q] at h; cases h; exact .cons a (ih q b)
      | mu k => cases h
      | no => cases h
/-! ### names and constants -/
theorem wp_var {i : Nat} {d : Dl.D} (h : ρ[i]? = some (.dat d)) (k : Φ (.dat d) S) : Wp K (tVar i) ρ S Φ := fun A σ H f Q q => by
  obtain ⟨v, e, r⟩ := f.var h nofun
  exact ⟨v, e, q _ S A v H k .refl f.st r⟩
theorem wp_varM {i j : Nat} (h : ρ[i]? = some (.mu j)) (k : Φ (.mu j) S) : Wp K (tVar i) ρ S Φ := fun A σ H f Q q => by
  obtain ⟨v, e, r⟩ := f.var h nofun
  exact ⟨v, e, q _ S A v H k .refl f.st r⟩
theorem wp_int {i : Int} (k : Φ (.dat (.int i)) S) : Wp K (tC (.int i)) ρ S Φ := fun A σ H f Q q => q _ S A _ H k .refl f.st (.int i)
theorem wp_bl {b : Bool} (k : Φ (.dat (.bl b)) S) : Wp K (tC (.bl b)) ρ S Φ := fun A σ H f Q q => q _ S A _ H k .refl f.st (.bl b)
theorem wp_str {x : Str} (k : Φ (.dat (.str x)) S) : Wp K (tC (.str x)) ρ S Φ := fun A σ H f Q q => q _ S A _ H k .refl f.st (.str x)
theorem wp_non (k : Φ (.dat .non) S) : Wp K (tC .non) ρ S Φ := fun A σ H f Q q => q _ S A _ H k .refl f.st .non
theorem wp_ty {n : String} (k : Φ (.dat (.ty n)) S) : Wp K (tC (.ty n)) ρ S Φ := fun A σ H f Q q => q _ S A _ H k .refl f.st (.ty n)
theorem wp_glo {x : Str} (k : Φ (.dat (.glo x)) S) : Wp K (tC (.ref (He.ga K x))) ρ S Φ := fun A σ H f Q q => q _ S A _ H k .refl f.st (.glo x)
/-! ### operators -/
theorem wp_op {r : R2} (h : Wp K ta ρ S fun x S1 => Wp K tb ρ S1 fun y S2 => Op2 K r x y S2 fun z => Φ z S2) : Wp K (tOp r ta tb) ρ S Φ := fun A σ H f Q q =>
  h A σ H f _ fun x S1 A1 v1 H1 hw g1 so1 r1 => hw A1 σ H1 (f.go g1 so1) _ fun y S2 A2 v2 H2 ho g2 so2 r2 => ho A2 H2 v1 v2 so2 (r1.go g2) r2 Q fun z v H3 hz e3 rz => q z S2 A2 v H3 hz ((g1.trans g2).trans (.ex e3)) (so2.ex e3) rz
theorem wp_un {r : V → Hp → VK → Prop} (h : Wp K ta ρ S fun x S1 => Op1 K r x S1 fun z => Φ z S1) : Wp K (tUn r ta) ρ S Φ := fun A σ H f Q q =>
  h A σ H f _ fun x S1 A1 v1 H1 ho g1 so1 r1 => ho A1 H1 v1 so1 r1 Q fun z v H3 hz e3 rz => q z S1 A1 v H3 hz (g1.trans (.ex e3)) (so1.ex e3) rz
theorem wp_cb {r : List V → Hp → VK → Prop} (h : WpA K tl ρ S fun xs S1 => Cb K r xs S1 fun z => Φ z S1) : Wp K (tCB r tl) ρ S Φ := fun A σ H f Q q =>
  h A σ H f _ fun xs S1 A1 vs H1 ho g1 so1 r1 => ho A1 H1 vs so1 r1 Q fun z v H3 hz e3 rz => q z S1 A1 v H3 hz (g1.trans (.ex e3)) (so1.ex e3) rz
theorem wa_nil {Φ : List R → Store → Prop} (k : Φ [] S) : WpA K tNil ρ S Φ := fun A σ H f Q q => q [] S A [] H k .refl f.st .nil
theorem wa_cons {Φ : List R → Store → Prop} (h : Wp K ta ρ S fun x S1 => WpA K tl ρ S1 fun xs S2 => Φ (x :: xs) S2) : WpA K (tCons ta tl) ρ S Φ := fun A σ H f Q q =>
  h A σ H f _ fun x S1 A1 v1 H1 hw g1 so1 r1 => hw A1 σ H1 (f.go g1 so1) _ fun xs S2 A2 vs H2 hk g2 so2 r2 => q _ S2 A2 _ H2 hk (g1.trans g2) so2 (.cons (r1.go g2) r2)
/-- a new tuple, a new list, as data -/
def Tu (rs : List R) (Φ : List Dl.D → Prop) : Prop := ∃ ds, dats rs = some ds ∧ ds.length ≤ 100000 ∧ Φ ds
theorem tu_0 {Φ : List Dl.D → Prop} (k : Φ []) : Tu [] Φ := ⟨_, rfl, Nat.le_of_ble_eq_true rfl, k⟩
theorem tu_1 {Φ : List Dl.D → Prop} {a : Dl.D} (k : Φ [a]) : Tu [.dat a] Φ := ⟨_, rfl, Nat.le_of_ble_eq_true rfl, k⟩
theorem tu_2 {Φ : List Dl.D → Prop} {a b : Dl.D} (k : Φ [a, b]) : Tu [.dat a, .dat b] Φ := ⟨_, rfl, Nat.le_of_ble_eq_true rfl, k⟩
theorem tu_3 {Φ : List Dl.D → Prop} {a b c : Dl.D} (k : Φ [a, b, c]) : Tu [.dat a, .dat b, .dat c] Φ := ⟨_, rfl, Nat.le_of_ble_eq_true rfl, k⟩
theorem tu_4 {Φ : List Dl.D → Prop} {a b c d : Dl.D} (k : Φ [a, b, c, d]) : Tu [.dat a, .dat b, .dat c, .dat d] Φ := ⟨_, rfl, Nat.le_of_ble_eq_true rfl, k⟩
theorem tu_of {Φ : List Dl.D → Prop} {rs : List R} {ds : List Dl.D} (h : dats rs = some ds) (hl : ds.length ≤ 100000) (k : Φ ds) : Tu rs Φ := ⟨ds, h, hl, k⟩
theorem rep_new {so : SOk K A S H} {p : Addr} {ds : List Dl.D} {xs : List V} (hp : H p = none) (l : RepL K (Lv A S) H ds xs) : Rep K (Lv A S) (upd H p (.tup xs)) (.tup ds) (.ref p) ∧ Rep K (Lv A S) (upd H p (.lst xs)) (.lst ds) (.ref p) :=
  ⟨.tup (so.new hp) (.inl upd_same) (l.go (.ex (Ex.new hp))), .lst (so.new hp) upd_same (l.go (.ex (Ex.new hp)))⟩
theorem wp_tup (h : WpA K tl ρ S fun xs S1 => Tu xs fun ds => Φ (.dat (.tup ds)) S1) : Wp K (tTup tl) ρ S Φ := fun A σ H f Q q =>
  h A σ H f _ fun xs S1 A1 vs H1 ⟨ds, hd, hl, k⟩ g1 so1 r1 => by
    have l := dats_rep hd r1
    refine ⟨by rw [← l.length]; exact sz_of hl, fun p hp => q _ S1 A1 _ _ k (g1.trans (.ex (Ex.new hp))) (so1.ex (Ex.new hp)) (rep_new (so := so1) hp l).1⟩
theorem wp_lst (h : WpA K tl ρ S fun xs S1 => Tu xs fun ds => Φ (.dat (.lst ds)) S1) : Wp K (tLst tl) ρ S Φ := fun A σ H f Q q =>
  h A σ H f _ fun xs S1 A1 vs H1 ⟨ds, hd, hl, k⟩ g1 so1 r1 => by
    have l := dats_rep hd r1
    refine ⟨by rw [← l.length]; exact sz_of hl, fun p hp => q _ S1 A1 _ _ k (g1.trans (.ex (Ex.new hp))) (so1.ex (Ex.new hp)) (rep_new (so := so1) hp l).2⟩
/-- .. as a thing of the store -/
theorem wp_lstM (h : WpA K tl ρ S fun xs S1 => Tu xs fun ds => Φ (.mu S1.length) (S1 ++ [.ls ds])) : Wp K (tLst tl) ρ S Φ := fun A σ H f Q q =>
  h A σ H f _ fun xs S1 A1 vs H1 ⟨ds, hd, hl, k⟩ g1 so1 r1 => by
    have l := dats_rep hd r1
    refine ⟨by rw [← l.length]; exact sz_of hl, fun p hp => ?_⟩
    obtain ⟨so2, g2⟩ := so1.add (m := .ls ds) (o := .lst vs) hp fun X g => ⟨vs, upd_same, l.go g⟩
    refine q _ _ _ _ _ k (g1.trans g2) so2 ⟨p, ?_, rfl⟩
    rw [← so1.len, List.getElem?_append_right (Nat.le_refl _), Nat.sub_self]
    rfl
/-! ### tests -/
def Bo (r : R) (Φ : Bool → Prop) : Prop := ∃ b, r = .dat (.bl b) ∧ Φ b
theorem bo {b : Bool} {Φ : Bool → Prop} (k : Φ b) : Bo (.dat (.bl b)) Φ := ⟨b, rfl, k⟩
theorem rep_bl {b : Bool} {v : V} {X : Addr → Prop} (h : Rep K X H (.bl b) v) : v = .bl b := by cases h; rfl
theorem rep_int {i : Int} {v : V} {X : Addr → Prop} (h : Rep K X H (.int i) v) : v = .int i := by cases h; rfl
theorem rep_str {x : Str} {v : V} {X : Addr → Prop} (h : Rep K X H (.str x) v) : v = .str x := by cases h; rfl
theorem rep_non {v : V} {X : Addr → Prop} (h : Rep K X H .non v) : v = .non := by cases h; rfl
theorem wt_B {Φ : Bool → Store → Prop} (h : Wp K te ρ S fun r S1 => Bo r fun b => Φ b S1) : WpT K (tB te) ρ S Φ := fun A σ H f Q q =>
  h A σ H f _ fun r S1 A1 v1 H1 ⟨b, e, k⟩ g1 so1 r1 => by
    subst e
    exact ⟨b, rep_bl r1, q b S1 A1 H1 k g1 so1⟩
theorem wt_test {Φ : Bool → Store → Prop} (h : Wp K te ρ S fun r S1 => Bo r fun b => Φ b S1) : WpT K (tTest te) ρ S Φ := fun A σ H f Q q =>
  h A σ H f _ fun r S1 A1 v1 H1 ⟨b, e, k⟩ g1 so1 r1 => by
    subst e
    exact ⟨b, rep_bl r1, q b S1 A1 H1 k g1 so1⟩
theorem wt_not {Φ : Bool → Store → Prop} (h : WpT K tt ρ S fun b S1 => Φ (!b) S1) : WpT K (tNot tt) ρ S Φ := fun A σ H f Q q => h A σ H f _ fun b S1 A1 H1 k g1 so1 => q _ S1 A1 H1 k g1 so1
theorem wt_yes {Φ : Bool → Store → Prop} (k : Φ true S) : WpT K tYes ρ S Φ := fun A σ H f Q q => q true S A H k .refl f.st
theorem wt_and {Φ : Bool → Store → Prop} (h : WpT K tt ρ S fun b S1 => (b = true → WpT K tu ρ S1 Φ) ∧ (b = false → Φ false S1)) : WpT K (tAnd tt tu) ρ S Φ := fun A σ H f Q q => h A σ H f _ fun b S1 A1 H1 k g1 so1 => by
  cases b with
  | true => exact k.1 rfl A1 σ H1 (f.go g1 so1) Q fun c S2 A2 H2 k2 g2 so2 => q c S2 A2 H2 k2 (g1.trans g2) so2
  | false => exact q false S1 A1 H1 (k.2 rfl) g1 so1
theorem wt_or {Φ : Bool → Store → Prop} (h : WpT K tt ρ S fun b S1 => (b = true → Φ true S1) ∧ (b = false → WpT K tu ρ S1 Φ)) : WpT K (tOr tt tu) ρ S Φ := fun A σ H f Q q => h A σ H f _ fun b S1 A1 H1 k g1 so1 => by
  cases b with
  | false => exact k.2 rfl A1 σ H1 (f.go g1 so1) Q fun c S2 A2 H2 k2 g2 so2 => q c S2 A2 H2 k2 (g1.trans g2) so2
  | true => exact q true S1 A1 H1 (k.1 rfl) g1 so1
theorem wp_andV (h : Wp K ta ρ S fun r S1 => Bo r fun b => (b = true → Wp K tb ρ S1 Φ) ∧ (b = false → Φ (.dat (.bl false)) S1)) : Wp K (tAndV ta tb) ρ S Φ := fun A σ H f Q q => h A σ H f _ fun r S1 A1 v1 H1 ⟨b, e, k⟩ g1 so1 r1 => by
  subst e
  refine ⟨b, rep_bl r1, ?_⟩
  cases b with
  | true => exact k.1 rfl A1 σ H1 (f.go g1 so1) Q fun c S2 A2 v2 H2 k2 g2 so2 r2 => q c S2 A2 v2 H2 k2 (g1.trans g2) so2 r2
  | false => exact q _ S1 A1 _ H1 (k.2 rfl) g1 so1 (.bl false)
theorem wp_orV (h : Wp K ta ρ S fun r S1 => Bo r fun b => (b = true → Φ (.dat (.bl true)) S1) ∧ (b = false → Wp K tb ρ S1 Φ)) : Wp K (tOrV ta tb) ρ S Φ := fun A σ H f Q q => h A σ H f _ fun r S1 A1 v1 H1 ⟨b, e, k⟩ g1 so1 r1 => by
  subst e
  refine ⟨b, rep_bl r1, ?_⟩
  cases b with
  | false => exact k.2 rfl A1 σ H1 (f.go g1 so1) Q fun c S2 A2 v2 H2 k2 g2 so2 r2 => q c S2 A2 v2 H2 k2 (g1.trans g2) so2 r2
  | true => exact q _ S1 A1 _ H1 (k.1 rfl) g1 so1 (.bl true)
theorem wp_notV (h : Wp K ta ρ S fun r S1 => Bo r fun b => Φ (.dat (.bl (!b))) S1) : Wp K (tNotV ta) ρ S Φ := fun A σ H f Q q => h A σ H f _ fun r S1 A1 v1 H1 ⟨b, e, k⟩ g1 so1 r1 => by
  subst e
  exact ⟨b, rep_bl r1, q _ S1 A1 _ H1 k g1 so1 (.bl _)⟩
theorem wp_if (h : WpT K tt ρ S fun b S1 => (b = true → Wp K ta ρ S1 Φ) ∧ (b = false → Wp K tb ρ S1 Φ)) : Wp K (tIf tt ta tb) ρ S Φ := fun A σ H f Q q => h A σ H f _ fun b S1 A1 H1 k g1 so1 => by
  cases b with
  | true => exact k.1 rfl A1 σ H1 (f.go g1 so1) Q fun c S2 A2 v2 H2 k2 g2 so2 r2 => q c S2 A2 v2 H2 k2 (g1.trans g2) so2 r2
  | false => exact k.2 rfl A1 σ H1 (f.go g1 so1) Q fun c S2 A2 v2 H2 k2 g2 so2 r2 => q c S2 A2 v2 H2 k2 (g1.trans g2) so2 r2
theorem wp_chain {r r' : R2} (h : Wp K ta ρ S fun x S1 => Wp K tb ρ S1 fun y S2 => Op2 K r x y S2 fun z => Bo z fun b => (b = true → Wp K tc ρ S2 fun w S3 => Op2 K r' y w S3 fun z => Φ z S3) ∧ (b = false → Φ (.dat (.bl false)) S2)) : Wp K (tChain r r' ta tb tc) ρ S Φ := fun A σ H f Q q =>
  h A σ H f _ fun x S1 A1 v1 H1 hw g1 so1 r1 => hw A1 σ H1 (f.go g1 so1) _ fun y S2 A2 v2 H2 ho g2 so2 r2 => ho A2 H2 v1 v2 so2 (r1.go g2) r2 _ fun z v H3 hz e3 rz => by
    obtain ⟨b, e, k⟩ := hz
    subst e
    refine ⟨b, rep_bl rz, ?_⟩
    have g03 := (g1.trans g2).trans (Gr.ex (A := A2) (S := S2) e3)
    have so3 := so2.ex e3
    cases b with
    | true => exact k.1 rfl A2 σ H3 (f.go g03 so3) _ fun w S4 A4 v4 H4 ho4 g4 so4 r4 => ho4 A4 H4 v2 v4 so4 ((r2.go (Gr.ex e3)).go g4) r4 Q fun z v H5 hz e5 rz => q z S4 A4 v H5 hz ((g03.trans g4).trans (.ex e5)) (so4.ex e5) rz
    | false => exact q _ S2 A2 _ H3 (k.2 rfl) g03 so3 (.bl false)
/-! ### slices -/
theorem wo_none {Φ : Option Int → Store → Prop} (k : Φ none S) : WpO K tNoPart ρ S Φ := fun A σ H f Q q => q none S A H k .refl f.st
def In1 (r : R) (Φ : Int → Prop) : Prop := ∃ i, r = .dat (.int i) ∧ Φ i
theorem in1 {i : Int} {Φ : Int → Prop} (k : Φ i) : In1 (.dat (.int i)) Φ := ⟨i, rfl, k⟩
theorem wo_some {Φ : Option Int → Store → Prop} (h : Wp K te ρ S fun r S1 => In1 r fun i => Φ (some i) S1) : WpO K (tPart te) ρ S Φ := fun A σ H f Q q => h A σ H f _ fun r S1 A1 v1 H1 ⟨i, e, k⟩ g1 so1 r1 => by
  subst e
  exact ⟨i, rep_int r1, q _ S1 A1 H1 k g1 so1⟩
def Sl (K : PySem.W.Frag) (r : V → Option Int → Option Int → Hp → VK → Prop) (x : R) (lo hi : Option Int) (S : Store) (Φ : R → Prop) : Prop := Op1 K (fun v => r v lo hi) x S Φ
theorem wp_sl {r : V → Option Int → Option Int → Hp → VK → Prop} {tl th : TO} (h : Wp K te ρ S fun x S1 => WpO K tl ρ S1 fun lo S2 => WpO K th ρ S2 fun hi S3 => Sl K r x lo hi S3 fun z => Φ z S3) : Wp K (tSl r te tl th) ρ S Φ := fun A σ H f Q q =>
  h A σ H f _ fun x S1 A1 v1 H1 hw g1 so1 r1 => hw A1 σ H1 (f.go g1 so1) _ fun lo S2 A2 H2 hw2 g2 so2 => hw2 A2 σ H2 (f.go (g1.trans g2) so2) _ fun hi S3 A3 H3 ho g3 so3 =>
    ho A3 H3 v1 so3 ((r1.go g2).go g3) Q fun z v H4 hz e4 rz => q z S3 A3 v H4 hz (((g1.trans g2).trans g3).trans (.ex e4)) (so3.ex e4) rz
/-! ### statements -/
theorem ws_seq (h : WpS K t ρ S (fun ρ' S' => WpS K u ρ' S' Nx Rt Bk Ct) Rt Bk Ct) : WpS K (tSeq t u) ρ S Nx Rt Bk Ct := fun A σ H f D e =>
  h A σ H f _ ⟨fun ρ' S' A' σ' H' p g f' => p A' σ' H' f' D (e.go g), e.rt, e.bk, e.ct⟩
theorem ws_set {i : Nat} (h : Wp K te ρ S fun r S' => Nx (ρ.set i r) S') : WpS K (tAsg te (gName i)) ρ S Nx Rt Bk Ct := fun A σ H f D e =>
  h A σ H f _ fun r S' A' v H' p g so rr => e.nx _ S' A' _ H' p g ⟨so, (f.en.go g).set i rr⟩
theorem ws_drop (h : Wp K te ρ S fun _ S' => Nx ρ S') : WpS K (tDrop te) ρ S Nx Rt Bk Ct := fun A σ H f D e =>
  h A σ H f _ fun r S' A' v H' p g so rr => e.nx _ S' A' _ H' p g (f.go g so)
theorem ws_ret (h : Wp K te ρ S fun r S' => Rt r S') : WpS K (tRet te) ρ S Nx Rt Bk Ct := fun A σ H f D e =>
  h A σ H f _ fun r S' A' v H' p g so rr => e.rt _ S' A' _ H' p g so rr
theorem ws_retN (h : Rt (.dat .non) S) : WpS K tRetN ρ S Nx Rt Bk Ct := fun A σ H f D e => e.rt _ S A _ H h .refl f.st .non
theorem ws_next (h : Nx ρ S) : WpS K tNext ρ S Nx Rt Bk Ct := fun A σ H f D e => e.nx _ S A _ H h .refl f
theorem ws_break (h : Bk ρ S) : WpS K tBreak ρ S Nx Rt Bk Ct := fun A σ H f D e => e.bk _ S A _ H h .refl f
theorem ws_cont (h : Ct ρ S) : WpS K tCont ρ S Nx Rt Bk Ct := fun A σ H f D e => e.ct _ S A _ H h .refl f
theorem ws_if (h : WpT K tt ρ S fun b S1 => (b = true → WpS K t ρ S1 Nx Rt Bk Ct) ∧ (b = false → WpS K u ρ S1 Nx Rt Bk Ct)) : WpS K (tIfS tt t u) ρ S Nx Rt Bk Ct := fun A σ H f D e => h A σ H f _ fun b S1 A1 H1 k g1 so1 => by
  cases b with
  | true => exact k.1 rfl A1 σ H1 (f.go g1 so1) D (e.go g1)
  | false => exact k.2 rfl A1 σ H1 (f.go g1 so1) D (e.go g1)
def Two (rs : List R) (Φ : R → R → Prop) : Prop := ∃ a b, rs = [a, b] ∧ Φ a b
theorem two {a b : R} {Φ : R → R → Prop} (k : Φ a b) : Two [a, b] Φ := ⟨a, b, rfl, k⟩
theorem ws_par {i j : Nat} (h : WpA K tl ρ S fun rs S' => Two rs fun a b => Nx ((ρ.set i a).set j b) S') : WpS K (tPar i j tl) ρ S Nx Rt Bk Ct := fun A σ H f D e =>
  h A σ H f _ fun rs S' A' vs H' ⟨a, b, eq, p⟩ g so rr => by
    subst eq
    cases rr with
    | cons r1 rr =>
      cases rr with
      | cons r2 rr =>
        cases rr
        exact ⟨_, _, rfl, e.nx _ S' A' _ H' p g ⟨so, ((f.en.go g).set i r1).set j r2⟩⟩
/-! ### targets -/
def WpG (K : PySem.W.Frag) (g : TG) (r : R) (ρ : List R) (S : Store) (Φ : List R → Store → Prop) : Prop := ∀ (A : List Addr) (σ : L2.St) (H : Hp) (v : V), Fr K A S H ρ σ → RepR K A S H r v → ∀ Q : L2.St → Hp → Prop,
  (∀ (ρ' : List R) (S' : Store) (A' : List Addr) (σ' : L2.St) (H' : Hp), Φ ρ' S' → Gr A S H A' S' H' → Fr K A' S' H' ρ' σ' → Q σ' H') → g v σ H Q
def WpGs (K : PySem.W.Frag) (g : TGs) (rs : List R) (ρ : List R) (S : Store) (Φ : List R → Store → Prop) : Prop := ∀ (A : List Addr) (σ : L2.St) (H : Hp) (vs : List V), Fr K A S H ρ σ → RepRs K A S H rs vs → ∀ Q : L2.St → Hp → Prop,
  (∀ (ρ' : List R) (S' : Store) (A' : List Addr) (σ' : L2.St) (H' : Hp), Φ ρ' S' → Gr A S H A' S' H' → Fr K A' S' H' ρ' σ' → Q σ' H') → g vs σ H Q
theorem wg_name {i : Nat} {r : R} {Φ : List R → Store → Prop} (k : Φ (ρ.set i r) S) : WpG K (gName i) r ρ S Φ := fun A σ H v f rr Q q => q _ S A _ H k .refl ⟨f.st, f.en.set i rr⟩
theorem wgs_nil {Φ : List R → Store → Prop} (k : Φ ρ S) : WpGs K gNil [] ρ S Φ := fun A σ H vs f rr Q q => by
  cases rr
  exact ⟨rfl, q ρ S A σ H k .refl f⟩
theorem wgs_cons {g : TG} {gs : TGs} {r : R} {rs : List R} {Φ : List R → Store → Prop} (h : WpG K g r ρ S fun ρ1 S1 => WpGs K gs rs ρ1 S1 Φ) : WpGs K (gCons g gs) (r :: rs) ρ S Φ := fun A σ H vs f rr Q q => by
  cases rr with
  | cons r1 rr => exact ⟨_, _, rfl, h A σ H _ f r1 _ fun ρ1 S1 A1 σ1 H1 k g1 f1 => k A1 σ1 H1 _ f1 (RepRs.go g1 rr) Q fun ρ2 S2 A2 σ2 H2 k2 g2 f2 => q ρ2 S2 A2 σ2 H2 k2 (g1.trans g2) f2⟩
theorem reps_of {ds : List Dl.D} {vs : List V} (l : RepL K (Lv A S) H ds vs) : RepRs K A S H (ds.map .dat) vs := by
  induction ds generalizing vs with
  | nil => cases l; exact .nil
  | cons d ds ih => cases l with | cons h t => exact .cons h (ih t)
theorem rep_tup {ds : List Dl.D} {v : V} {X : Addr → Prop} (h : Rep K X H (.tup ds) v) : ∃ a xs, v = .ref a ∧ SqT K H a xs ∧ RepL K X H ds xs := by
  cases h with
  | tup n r l => exact ⟨_, _, rfl, .inl r, l⟩
  | ktup r l => exact ⟨_, _, rfl, r H, l⟩
theorem rep_ftup {ds : List Dl.D} {v : V} {X : Addr → Prop} (h : Rep K X H (.ftup ds) v) : ∃ a xs, v = .ref a ∧ SqT K H a xs ∧ RepL K X H ds xs := by
  cases h with
  | ftup n r l => exact ⟨_, _, rfl, FzT.sq r, l⟩
theorem rep_lstH {ds : List Dl.D} {v : V} {X : Addr → Prop} (h : Rep K X H (.lst ds) v) : ∃ a xs, v = .ref a ∧ H a = some (.lst xs) ∧ RepL K X H ds xs := by
  cases h with
  | lst n r l => exact ⟨_, _, rfl, r, l⟩
theorem rep_lst {ds : List Dl.D} {v : V} {X : Addr → Prop} (h : Rep K X H (.lst ds) v) : ∃ a xs, v = .ref a ∧ SqL K H a xs ∧ RepL K X H ds xs := by
  obtain ⟨a, xs, e, r, l⟩ := rep_lstH h
  exact ⟨a, xs, e, sq_of r, l⟩
theorem rep_flst {ds : List Dl.D} {v : V} {X : Addr → Prop} (h : Rep K X H (.flst ds) v) : ∃ a xs, v = .ref a ∧ SqL K H a xs ∧ RepL K X H ds xs := by
  cases h with
  | flst n r l => exact ⟨_, _, rfl, .inl r, l⟩
  | klst r l => exact ⟨_, _, rfl, r H, l⟩
theorem wg_tup {n : Nat} {gs : TGs} {ds : List Dl.D} {Φ : List R → Store → Prop} (hn : ds.length = n) (h : WpGs K gs (ds.map .dat) ρ S Φ) : WpG K (gTup K n gs) (.dat (.tup ds)) ρ S Φ := fun A σ H v f rr Q q => by
  obtain ⟨a, xs, rfl, sq, l⟩ := rep_tup rr
  exact ⟨a, xs, rfl, sq, by rw [← l.length]; exact hn, h A σ H xs f (reps_of l) Q q⟩
theorem wg_ftup {n : Nat} {gs : TGs} {ds : List Dl.D} {Φ : List R → Store → Prop} (hn : ds.length = n) (h : WpGs K gs (ds.map .dat) ρ S Φ) : WpG K (gTup K n gs) (.dat (.ftup ds)) ρ S Φ := fun A σ H v f rr Q q => by
  obtain ⟨a, xs, rfl, sq, l⟩ := rep_ftup rr
  exact ⟨a, xs, rfl, sq, by rw [← l.length]; exact hn, h A σ H xs f (reps_of l) Q q⟩
theorem wg_tup2 {n : Nat} {gs : TGs} {a b : Dl.D} {Φ : List R → Store → Prop} (hn : 2 = n) (h : WpGs K gs [.dat a, .dat b] ρ S Φ) : WpG K (gTup K n gs) (.dat (.tup [a, b])) ρ S Φ := wg_tup hn h
theorem wg_tup3 {n : Nat} {gs : TGs} {a b c : Dl.D} {Φ : List R → Store → Prop} (hn : 3 = n) (h : WpGs K gs [.dat a, .dat b, .dat c] ρ S Φ) : WpG K (gTup K n gs) (.dat (.tup [a, b, c])) ρ S Φ := wg_tup hn h
theorem wg_ftup2 {n : Nat} {gs : TGs} {a b : Dl.D} {Φ : List R → Store → Prop} (hn : 2 = n) (h : WpGs K gs [.dat a, .dat b] ρ S Φ) : WpG K (gTup K n gs) (.dat (.ftup [a, b])) ρ S Φ := wg_ftup hn h
theorem wg_ftup3 {n : Nat} {gs : TGs} {a b c : Dl.D} {Φ : List R → Store → Prop} (hn : 3 = n) (h : WpGs K gs [.dat a, .dat b, .dat c] ρ S Φ) : WpG K (gTup K n gs) (.dat (.ftup [a, b, c])) ρ S Φ := wg_ftup hn h
theorem ws_asg {g : TG} (h : Wp K te ρ S fun r S1 => WpG K g r ρ S1 Nx) : WpS K (tAsg te g) ρ S Nx Rt Bk Ct := fun A σ H f D e =>
  h A σ H f _ fun r S1 A1 v H1 k g1 so rr => k A1 σ H1 v (f.go g1 so) rr _ fun ρ2 S2 A2 σ2 H2 k2 g2 f2 => e.nx ρ2 S2 A2 σ2 H2 k2 (g1.trans g2) f2
/-- xs[i] = e, xs of the store -/
theorem wg_setL {to ti : TE} {r : R} {Φ : List R → Store → Prop} (h : Wp K to ρ S fun o S1 => Wp K ti ρ S1 fun i S2 => ∃ k ds j d, o = .mu k ∧ i = .dat (.int (j : Nat)) ∧ r = .dat d ∧ S2[k]? = some (.ls ds) ∧ j < ds.length ∧ Φ ρ (S2.set k (.ls (ds.set j d)))) :
    WpG K (gSub to ti rSetL) r ρ S Φ := fun A σ H v f rr Q q =>
  h A σ H f _ fun o S1 A1 vo H1 hw g1 so1 ro => hw A1 σ H1 (f.go g1 so1) _ fun i S2 A2 vi H2 ⟨k, ds, j, d, eo, ei, er, hk, lj, p⟩ g2 so2 ri => by
    subst eo ei er
    obtain ⟨a, ha, rfl⟩ := ro.go g2
    obtain rfl := rep_int ri
    obtain ⟨xs, hx, l⟩ := so2.ok k a _ ha hk
    have lx : j < xs.length := by rw [← l.length]; exact lj
    refine ⟨a, xs, (j : Int), j, rfl, rfl, hx, ixN_nat lx, ?_⟩
    have rv := (RepR.go (K := K) (r := .dat d) (g1.trans g2) rr)
    obtain ⟨so3, g3⟩ := so2.put (m' := .ls (ds.set j d)) (o := .lst (xs.set j v)) ha hk nofun nofun fun X _ g => ⟨_, upd_same, (RepL.go g l).set (Rep.go g rv) j⟩
    exact q ρ _ A2 σ _ p ((g1.trans g2).trans g3) ⟨so3, (f.en.go (g1.trans g2)).go g3⟩
theorem ws_aug {i : Nat} {ti : TIp} {x : R} (hx : ρ[i]? = some x) (nx : x ≠ .no) (h : Wp K te ρ S fun y S1 => Op2 K ti x y S1 fun z => Nx (ρ.set i z) S1) : WpS K (tAug i te ti) ρ S Nx Rt Bk Ct := fun A σ H f D e => by
  obtain ⟨v, ev, rv⟩ := f.var hx nx
  refine ⟨v, ev, h A σ H f _ fun y S1 A1 w H1 ho g1 so1 rw => ho A1 H1 v w so1 (rv.go g1) rw _ fun z u H2 hz e2 rz => ?_⟩
  exact e.nx _ S1 A1 _ H2 hz (g1.trans (.ex e2)) ⟨so1.ex e2, ((f.en.go g1).go (.ex e2)).set i rz⟩
/-- xs.append(e) -/
def App (o : R) (S : Store) (Φ : Nat → Prop) : Prop := ∃ (k : Nat) (ds : List Dl.D), o = .mu k ∧ S[k]? = some (.ls ds) ∧ Φ k
def AppTo (k : Nat) (y : R) (S : Store) (Φ : Store → Prop) : Prop := ∃ (d : Dl.D) (ds : List Dl.D), y = .dat d ∧ S[k]? = some (.ls ds) ∧ ds.length < 100000 ∧ Φ (S.set k (.ls (ds ++ [d])))
theorem ws_app (h : Wp K ta ρ S fun o S1 => App o S1 fun k => Wp K te ρ S1 fun y S2 => AppTo k y S2 fun S3 => Nx ρ S3) : WpS K (tDrop (tBM K "list" rAppend ta (tCons te tNil))) ρ S Nx Rt Bk Ct := fun A σ H f D e =>
  h A σ H f _ fun o S1 A1 v H1 ⟨k, ds', eo, hk1, hw⟩ g1 so1 ro => by
    subst eo
    obtain ⟨a, ha, rfl⟩ := ro
    obtain ⟨xs', hx', _⟩ := so1.ok k a _ ha hk1
    refine ⟨Or.inl ⟨rfl, xs', sq_of hx'⟩, hw A1 σ H1 (f.go g1 so1) _ fun y S2 A2 w H2 ⟨d, ds, ey, hk, lt, p⟩ g2 so2 ry => ?_⟩
    subst ey
    have ha2 := pre_get g2.pre ha
    obtain ⟨xs, hx, l⟩ := so2.ok k a _ ha2 hk
    obtain ⟨so3, g3⟩ := so2.put (m' := .ls (ds ++ [d])) (o := .lst (xs ++ [w])) ha2 hk nofun nofun fun X _ g => ⟨_, upd_same, (RepL.go g l).append (.cons (Rep.go g ry) .nil)⟩
    exact ⟨a, xs, w, rfl, rfl, hx, sz_lt (by rw [← l.length]; exact lt), e.nx ρ _ A2 σ _ p ((g1.trans g2).trans g3) ⟨so3, (f.en.go (g1.trans g2)).go g3⟩⟩
end
end Dl
/-! Loops, comprehensions, calls, told without heaps. -/
namespace Dl
open PySem PySem.Spec PyProof.Rows L2 _root_.Evl
/-- J walks the data ds, as long as what is no part of X stays -/
def ItOk (K : PySem.W.Frag) (X : Addr → Prop) (H : Hp) (J : It) (ds : List D) : Prop := ∀ (X' : Addr → Prop) (H' : Hp), Gw X H X' H' → (∀ a, X' a → H' a ≠ none) →
  (∀ (i : Nat) (d : D), ds[i]? = some d → J.go i H' ∧ ∀ x H'', J.yld i H' x H'' → Ex H' H'' ∧ Rep K X' H'' d x) ∧ J.stop ds.length H'
def WpI (K : PySem.W.Frag) (wi : TI) (ρ : List R) (S : Store) (Φ : List D → Store → Prop) : Prop := ∀ (A : List Addr) (σ : L2.St) (H : Hp), Fr K A S H ρ σ → ∀ Q : It → Hp → Prop,
  (∀ (ds : List D) (S' : Store) (A' : List Addr) (J : It) (H' : Hp), Φ ds S' → Gr A S H A' S' H' → SOk K A' S' H' → ItOk K (Lv A' S') H' J ds → Q J H') → wi σ H Q
section
variable {K : PySem.W.Frag} {A A' A1 A2 : List Addr} {S S' S1 S2 : Store} {H H' H1 H2 : Hp} {ρ : List R} {σ : L2.St} {De : Ends} {Nx Bk Ct : PR} {Rt : R → Store → Prop} {Φ : R → Store → Prop} {te ta tb tc : TE} {tt tu : TT} {tl : TA} {t u : TS} {wi : TI} {g : TG}
theorem Gw.sql {X X' : Addr → Prop} (g : Gw X H X' H') {a : Addr} {xs : List V} (n : ¬ X a) (h : Rd H a (.lst xs)) : SqL K H' a xs := .inl (g.rd n h).2
theorem Gw.sqt {X X' : Addr → Prop} (g : Gw X H X' H') {a : Addr} {xs : List V} (n : ¬ X a) (h : Rd H a (.tup xs)) : SqT K H' a xs := .inl (g.rd n h).2
theorem rng_go {lo : Int} {n i : Nat} {H : Hp} (h : i < n) : (Itr lo n).go i H := h
theorem it_rng {X : Addr → Prop} {lo : Int} {n : Nat} : ItOk K X H (Itr lo n) ((List.range n).map fun i => D.int (lo + (i : Nat))) := fun X' H' g _ => by
  refine ⟨fun i d hd => ?_, ?_⟩
  · have hl := (List.getElem?_eq_some_iff.mp hd).1
    rw [List.length_map, List.length_range] at hl
    rw [List.getElem?_map, List.getElem?_range hl] at hd
    cases hd
    refine ⟨hl, fun x H'' y => ?_⟩
    obtain ⟨e, y⟩ := y
    subst e y
    exact ⟨Ex.refl _, .int _⟩
  · rw [List.length_map, List.length_range]
    exact Nat.le_refl n
def rngD (lo hi : Int) : List D := (List.range (hi - lo).toNat).map fun i => D.int (lo + (i : Nat))
def rng0 (n : Int) : List D := (List.range n.toNat).map fun i => D.int (i : Nat)
def Rg1 (rs : List R) (Φ : Int → Prop) : Prop := ∃ j : Int, rs = [.dat (.int j)] ∧ -(2 ^ 62) ≤ j ∧ j < 2 ^ 62 ∧ Φ j
theorem rg1 {j : Int} {Φ : Int → Prop} (h : j < 100000) (h' : -100000 < j) (k : Φ j) : Rg1 [.dat (.int j)] Φ := ⟨j, rfl, by omega, by omega, k⟩
theorem wi_rng1 {Φ : List D → Store → Prop} (h : WpA K tl ρ S fun rs S1 => Rg1 rs fun j => Φ (rng0 j) S1) : WpI K (iRng1 tl) ρ S Φ := fun A σ H f Q q =>
  h A σ H f _ fun rs S1 A1 vs H1 ⟨j, e, l1, l2, k⟩ g1 so1 rr => by
    subst e
    cases rr with
    | cons r1 rr =>
      cases rr
      obtain rfl := rep_int r1
      refine ⟨j, rfl, l1, l2, q _ S1 A1 _ H1 k g1 so1 ?_⟩
      have e : rng0 j = (List.range j.toNat).map fun i => D.int (0 + (i : Nat)) := by
        unfold rng0
        congr 1
        funext i
        rw [Int.zero_add]
      rw [e]
      exact it_rng
def Rg2 (rs : List R) (Φ : Int → Int → Prop) : Prop := ∃ i j : Int, rs = [.dat (.int i), .dat (.int j)] ∧ (-(2 ^ 62) ≤ i ∧ i < 2 ^ 62 ∧ -(2 ^ 62) ≤ j ∧ j < 2 ^ 62) ∧ Φ i j
theorem rg2 {i j : Int} {Φ : Int → Int → Prop} (h : -100000 < i ∧ i < 100000 ∧ -100000 < j ∧ j < 100000) (k : Φ i j) : Rg2 [.dat (.int i), .dat (.int j)] Φ := ⟨i, j, rfl, by omega, k⟩
theorem wi_rng2 {Φ : List D → Store → Prop} (h : WpA K tl ρ S fun rs S1 => Rg2 rs fun i j => Φ (rngD i j) S1) : WpI K (iRng2 tl) ρ S Φ := fun A σ H f Q q =>
  h A σ H f _ fun rs S1 A1 vs H1 ⟨i, j, e, l, k⟩ g1 so1 rr => by
    subst e
    cases rr with
    | cons r1 rr =>
      cases rr with
      | cons r2 rr =>
        cases rr
        obtain rfl := rep_int r1
        obtain rfl := rep_int r2
        exact ⟨i, j, rfl, l, q _ S1 A1 _ H1 k g1 so1 it_rng⟩
/-- lists and tuples, as data -/
def Sq (r : R) (Φ : List D → Prop) : Prop := ∃ ds, (r = .dat (.lst ds)) ∧ Φ ds
theorem sq_lst {ds : List D} {Φ : List D → Prop} (k : Φ ds) : Sq (.dat (.lst ds)) Φ := ⟨ds, rfl, k⟩
def Sqt (r : R) (Φ : List D → Prop) : Prop := ∃ ds, (r = .dat (.tup ds) ∨ r = .dat (.ftup ds)) ∧ Φ ds
theorem sq_tup {ds : List D} {Φ : List D → Prop} (k : Φ ds) : Sqt (.dat (.tup ds)) Φ := ⟨ds, .inl rfl, k⟩
theorem sq_ftup {ds : List D} {Φ : List D → Prop} (k : Φ ds) : Sqt (.dat (.ftup ds)) Φ := ⟨ds, .inr rfl, k⟩
theorem it_lst {X : Addr → Prop} {ds : List D} {v : V} (r : Rep K X H (.lst ds) v) : ∃ a xs, v = .ref a ∧ SqL K H a xs ∧ ItOk K X H (Itl K a) ds := by
  obtain ⟨a, xs, rfl, sq, l⟩ := rep_lst r
  refine ⟨a, xs, rfl, sq, fun X' H' g _ => ?_⟩
  have r' := r.go g
  obtain ⟨a', xs', e, sq', l'⟩ := rep_lst r'
  cases e
  refine ⟨fun i d hd => ?_, ⟨xs', sq', Nat.le_of_eq l'.length.symm⟩⟩
  obtain ⟨v, hv, rv⟩ := l'.get hd
  refine ⟨⟨xs', v, sq', hv⟩, fun x H'' y => ?_⟩
  obtain ⟨e, y⟩ := y
  subst e
  have e2 := y xs' sq'
  rw [hv] at e2
  cases e2
  exact ⟨Ex.refl _, rv⟩
theorem it_tup {X : Addr → Prop} {d : D} {ds : List D} {v : V} (hd : d = .tup ds ∨ d = .ftup ds) (r : Rep K X H d v) : ∃ a xs, v = .ref a ∧ SqT K H a xs ∧ ItOk K X H (Itt K a) ds := by
  have sp : ∀ {X' : Addr → Prop} {H' : Hp}, Rep K X' H' d v → ∃ a xs, v = .ref a ∧ SqT K H' a xs ∧ RepL K X' H' ds xs := fun {X' H'} r => by
    rcases hd with rfl | rfl
    · exact rep_tup r
    · exact rep_ftup r
  obtain ⟨a, xs, rfl, sq, l⟩ := sp r
  refine ⟨a, xs, rfl, sq, fun X' H' g _ => ?_⟩
  obtain ⟨a', xs', e, sq', l'⟩ := sp (r.go g)
  cases e
  refine ⟨fun i d hd => ?_, ⟨xs', sq', Nat.le_of_eq l'.length.symm⟩⟩
  obtain ⟨v, hv, rv⟩ := l'.get hd
  refine ⟨⟨xs', v, sq', hv⟩, fun x H'' y => ?_⟩
  obtain ⟨e, y⟩ := y
  subst e
  have e2 := y xs' sq'
  rw [hv] at e2
  cases e2
  exact ⟨Ex.refl _, rv⟩
theorem wi_list {Φ : List D → Store → Prop} (h : Wp K te ρ S fun r S1 => Sq r fun ds => Φ ds S1) : WpI K (iList K te) ρ S Φ := fun A σ H f Q q =>
  h A σ H f _ fun r S1 A1 v H1 ⟨ds, e, k⟩ g1 so1 rr => by
    subst e
    obtain ⟨a, xs, rfl, sq, it⟩ := it_lst rr
    exact ⟨a, rfl, ⟨xs, sq⟩, q ds S1 A1 _ H1 k g1 so1 it⟩
theorem wi_tup {Φ : List D → Store → Prop} (h : Wp K te ρ S fun r S1 => Sqt r fun ds => Φ ds S1) : WpI K (iTup K te) ρ S Φ := fun A σ H f Q q =>
  h A σ H f _ fun r S1 A1 v H1 ⟨ds, e, k⟩ g1 so1 rr => by
    obtain ⟨a, xs, rfl, sq, it⟩ : ∃ a xs, v = .ref a ∧ SqT K H1 a xs ∧ ItOk K (Lv A1 S1) H1 (Itt K a) ds := by
      rcases e with rfl | rfl
      · exact it_tup (.inl rfl) rr
      · exact it_tup (.inr rfl) rr
    exact ⟨a, rfl, ⟨xs, sq⟩, q ds S1 A1 _ H1 k g1 so1 it⟩
/-- for x in ..: by a word of the turn, the slots and the store -/
structure Lp (K : PySem.W.Frag) (g : TG) (tb : TS) (ds : List D) (I : Nat → List R → Store → Prop) (Nx : PR) (Rt : R → Store → Prop) : Prop where
  step : ∀ (i : Nat) (d : D) (ρ : List R) (S : Store), ds[i]? = some d → I i ρ S → WpG K g (.dat d) ρ S fun ρ2 S2 => WpS K tb ρ2 S2 (I (i + 1)) Rt Nx (I (i + 1))
  done : ∀ (ρ : List R) (S : Store), I ds.length ρ S → Nx ρ S
theorem ws_for {tb : TS} (h : WpI K wi ρ S fun ds S1 => ∃ I : Nat → List R → Store → Prop, I 0 ρ S1 ∧ Lp K g tb ds I Nx Rt) : WpS K (tFor wi g tb) ρ S Nx Rt Bk Ct := fun A σ H f De e =>
  h A σ H f _ fun ds S1 A1 J H1 ⟨I, i0, lp⟩ g1 so1 it => by
    refine ⟨fun i m σ' H' => m = ds.length - i ∧ i ≤ ds.length ∧ ∃ A' ρ' S', I i ρ' S' ∧ Gr A1 S1 H1 A' S' H' ∧ Fr K A' S' H' ρ' σ', ⟨ds.length, by simp, Nat.zero_le _, A1, ρ, S1, i0, .refl, f.go g1 so1⟩, ?_⟩
    rintro i m σ' H' ⟨rfl, hi, A', ρ', S', hI, g2, f2⟩
    obtain ⟨go, stop⟩ := it _ H' g2.gw fun a l => f2.st.dom l
    by_cases lt : i < ds.length
    · obtain ⟨go1, go2⟩ := go i ds[i] (List.getElem?_eq_getElem lt)
      refine .inr ⟨go1, fun σ3 H3 => ∃ A3 ρ3 S3, I (i + 1) ρ3 S3 ∧ Gr A1 S1 H1 A3 S3 H3 ∧ Fr K A3 S3 H3 ρ3 σ3, fun σ3 H3 q => ⟨ds.length - (i + 1), by omega, rfl, lt, q⟩, fun x H3 y => ?_⟩
      obtain ⟨e3, rx⟩ := go2 x H3 y
      have f3 : Fr K A' S' H3 ρ' σ' := f2.go (.ex e3) (f2.st.ex e3)
      refine lp.step i ds[i] ρ' S' (List.getElem?_eq_getElem lt) hI A' σ' H3 x f3 rx _ fun ρ4 S4 A4 σ4 H4 hw g4 f4 => ?_
      have g14 := (g2.trans (Gr.ex e3)).trans g4
      refine hw A4 σ4 H4 f4 _ ⟨fun ρ5 S5 A5 σ5 H5 hI g5 f5 => ⟨A5, ρ5, S5, hI, g14.trans g5, f5⟩, fun r S5 A5 v H5 p g5 so5 r5 => e.rt r S5 A5 v H5 p ((g1.trans g14).trans g5) so5 r5,
        fun ρ5 S5 A5 σ5 H5 p g5 f5 => e.nx ρ5 S5 A5 σ5 H5 p ((g1.trans g14).trans g5) f5, fun ρ5 S5 A5 σ5 H5 hI g5 f5 => ⟨A5, ρ5, S5, hI, g14.trans g5, f5⟩⟩
    · have ei : i = ds.length := by omega
      subst ei
      exact .inl ⟨stop, e.nx ρ' S' A' σ' H' (lp.done ρ' S' hI) (g1.trans g2) f2⟩
theorem ws_while {tb : TS} (I : Nat → List R → Store → Prop) (m : Nat) (h0 : I m ρ S)
    (h : ∀ m ρ S, I m ρ S → WpT K tt ρ S fun b S1 => (b = true → WpS K tb ρ S1 (fun ρ' S' => ∃ m', m' < m ∧ I m' ρ' S') Rt Nx (fun ρ' S' => ∃ m', m' < m ∧ I m' ρ' S')) ∧ (b = false → Nx ρ S1)) : WpS K (tWhile tt tb) ρ S Nx Rt Bk Ct := fun A σ H f De e => by
  refine ⟨fun m σ' H' => ∃ A' ρ' S', I m ρ' S' ∧ Gr A S H A' S' H' ∧ Fr K A' S' H' ρ' σ', ⟨m, A, ρ, S, h0, .refl, f⟩, ?_⟩
  rintro m σ' H' ⟨A', ρ', S', hI, g2, f2⟩
  refine h m ρ' S' hI A' σ' H' f2 _ fun b S3 A3 H3 k g3 so3 => ?_
  have g13 := g2.trans g3
  cases b with
  | true =>
    refine ⟨fun σ5 H5 => ∃ m', m' < m ∧ ∃ A5 ρ5 S5, I m' ρ5 S5 ∧ Gr A S H A5 S5 H5 ∧ Fr K A5 S5 H5 ρ5 σ5, fun σ5 H5 q => q, ?_⟩
    refine k.1 rfl A3 σ' H3 (f2.go g3 so3) _ ⟨fun ρ5 S5 A5 σ5 H5 ⟨m', lt, hI⟩ g5 f5 => ⟨m', lt, A5, ρ5, S5, hI, g13.trans g5, f5⟩, fun r S5 A5 v H5 p g5 so5 r5 => e.rt r S5 A5 v H5 p (g13.trans g5) so5 r5,
        fun ρ5 S5 A5 σ5 H5 p g5 f5 => e.nx ρ5 S5 A5 σ5 H5 p (g13.trans g5) f5, fun ρ5 S5 A5 σ5 H5 ⟨m', lt, hI⟩ g5 f5 => ⟨m', lt, A5, ρ5, S5, hI, g13.trans g5, f5⟩⟩
  | false => exact e.nx ρ' S3 A3 σ' H3 (k.2 rfl) g13 (f2.go g3 so3)
/-! ### comprehensions -/
def wipeR (ρ : List R) : List Nat → List R
  | [] => ρ
  | v :: vs => (wipeR ρ vs).set v .no
theorem EnvOk.wipe (h : EnvOk K A S H ρ σ) : ∀ vs : List Nat, EnvOk K A S H (wipeR ρ vs) (L2.wipe σ vs)
  | [] => h
  | v :: vs => by
    have q := EnvOk.wipe h vs
    refine ⟨by unfold wipeR L2.wipe; rw [List.length_set, List.length_set]; exact q.len, fun j r e => ?_⟩
    unfold wipeR at e
    unfold L2.wipe
    by_cases hj : v = j
    · subst hj
      have lj := (List.getElem?_eq_some_iff.mp e).1
      rw [List.length_set] at lj
      rw [List.getElem?_set_self lj] at e
      cases e
      exact .inl rfl
    · rw [List.getElem?_set_ne hj] at e
      rw [List.getElem?_set_ne hj]
      exact q.at' j r e
theorem wipe_get : ∀ (σ : L2.St) (vs : List Nat) (i : Nat), (L2.wipe σ vs)[i]? = if i ∈ vs then σ[i]?.map (fun _ => none) else σ[i]?
  | σ, [], i => by simp [L2.wipe]
  | σ, v :: vs, i => by
    unfold L2.wipe
    by_cases hv : v = i
    · subst hv
      rw [if_pos List.mem_cons_self]
      by_cases lt : v < σ.length
      · rw [List.getElem?_set_self (by rw [L2.wipe_length]; exact lt), List.getElem?_eq_getElem lt]
        rfl
      · rw [List.getElem?_eq_none (by rw [List.length_set, L2.wipe_length]; omega), List.getElem?_eq_none (by omega)]
        rfl
    · rw [List.getElem?_set_ne hv, wipe_get σ vs i]
      by_cases hm : i ∈ vs
      · rw [if_pos hm, if_pos (List.mem_cons_of_mem _ hm)]
      · rw [if_neg hm, if_neg (fun z => (List.mem_cons.mp z).elim (fun q => hv q.symm) hm)]
theorem wipe_same {σ σ' : L2.St} {vs : List Nat} (hl : σ'.length = (L2.wipe σ vs).length) (h : ∀ i, i ∉ vs → σ'[i]? = (L2.wipe σ vs)[i]?) : L2.wipe σ' vs = L2.wipe σ vs := by
  apply List.ext_getElem?
  intro i
  rw [wipe_get]
  by_cases hm : i ∈ vs
  · rw [if_pos hm, wipe_get, if_pos hm]
    rw [L2.wipe_length] at hl
    by_cases lt : i < σ.length
    · rw [List.getElem?_eq_getElem lt, List.getElem?_eq_getElem (by omega)]
      rfl
    · rw [List.getElem?_eq_none (by omega), List.getElem?_eq_none (by omega)]
  · rw [if_neg hm, h i hm]
/-- targets of a comprehension -/
def WpGc (K : PySem.W.Frag) (g : TG) (r : R) (ρ : List R) (S : Store) (vs : List Nat) (Φ : List R → Prop) : Prop := ∀ (A : List Addr) (σ : L2.St) (H : Hp) (v : V), Fr K A S H ρ σ → RepR K A S H r v → ∀ Q : L2.St → Hp → Prop,
  (∀ (ρ' : List R) (σ' : L2.St), Φ ρ' → σ'.length = σ.length → (∀ i, i ∉ vs → σ'[i]? = σ[i]?) → EnvOk K A S H ρ' σ' → Q σ' H) → g v σ H Q
def WpGcs (K : PySem.W.Frag) (g : TGs) (rs : List R) (ρ : List R) (S : Store) (vs : List Nat) (Φ : List R → Prop) : Prop := ∀ (A : List Addr) (σ : L2.St) (H : Hp) (us : List V), Fr K A S H ρ σ → RepRs K A S H rs us → ∀ Q : L2.St → Hp → Prop,
  (∀ (ρ' : List R) (σ' : L2.St), Φ ρ' → σ'.length = σ.length → (∀ i, i ∉ vs → σ'[i]? = σ[i]?) → EnvOk K A S H ρ' σ' → Q σ' H) → g us σ H Q
theorem gc_name {i : Nat} {r : R} {vs : List Nat} {Φ : List R → Prop} (hi : i ∈ vs) (k : Φ (ρ.set i r)) : WpGc K (gName i) r ρ S vs Φ := fun A σ H v f rr Q q =>
  q _ _ k (List.length_set ..) (fun j hj => List.getElem?_set_ne (fun z : i = j => hj (z ▸ hi))) (f.en.set i rr)
theorem gcs_nil {vs : List Nat} {Φ : List R → Prop} (k : Φ ρ) : WpGcs K gNil [] ρ S vs Φ := fun A σ H us f rr Q q => by
  cases rr
  exact ⟨rfl, q ρ σ k rfl (fun _ _ => rfl) f.en⟩
theorem gcs_cons {g : TG} {gs : TGs} {r : R} {rs : List R} {vs : List Nat} {Φ : List R → Prop} (h : WpGc K g r ρ S vs fun ρ1 => WpGcs K gs rs ρ1 S vs Φ) : WpGcs K (gCons g gs) (r :: rs) ρ S vs Φ := fun A σ H us f rr Q q => by
  cases rr with
  | cons r1 rr => exact ⟨_, _, rfl, h A σ H _ f r1 _ fun ρ1 σ1 k l1 s1 e1 => k A σ1 H _ ⟨f.st, e1⟩ rr Q fun ρ2 σ2 k2 l2 s2 e2 => q ρ2 σ2 k2 (l2.trans l1) (fun i hi => (s2 i hi).trans (s1 i hi)) e2⟩
theorem gc_tup {n : Nat} {gs : TGs} {ds : List D} {vs : List Nat} {Φ : List R → Prop} (hn : ds.length = n) (h : WpGcs K gs (ds.map .dat) ρ S vs Φ) : WpGc K (gTup K n gs) (.dat (.tup ds)) ρ S vs Φ := fun A σ H v f rr Q q => by
  obtain ⟨a, xs, rfl, sq, l⟩ := rep_tup rr
  exact ⟨a, xs, rfl, sq, by rw [← l.length]; exact hn, h A σ H xs f (reps_of l) Q q⟩
structure Lc (K : PySem.W.Frag) (g : TG) (tt : TT) (te : TE) (vs : List Nat) (ρ : List R) (ds : List D) (n : Nat) (I : Nat → List D → Store → Prop) : Prop where
  step : ∀ (i : Nat) (d : D) (acc : List D) (S : Store), ds[i]? = some d → S.length = n → I i acc S → acc.length < 100000 ∧ WpGc K g (.dat d) (wipeR ρ vs) (S ++ [.ls acc]) vs fun ρ2 => WpT K tt ρ2 (S ++ [.ls acc]) fun b S3 =>
    (b = true → Wp K te ρ2 S3 fun r S4 => ∃ y S5, r = .dat y ∧ S4 = S5 ++ [.ls acc] ∧ S5.length = n ∧ I (i + 1) (acc ++ [y]) S5) ∧ (b = false → ∃ S5, S3 = S5 ++ [.ls acc] ∧ S5.length = n ∧ I (i + 1) acc S5)
theorem pre_eq {α : Type} {A B : List α} (p : A <+: B) (h : A.length = B.length) : B = A := by
  obtain ⟨t, rfl⟩ := p
  rw [List.length_append] at h
  have e : t = [] := List.eq_nil_of_length_eq_zero (by omega)
  rw [e, List.append_nil]
theorem wp_lc {vs : List Nat} (h : WpI K wi ρ S fun ds S1 => ∃ I : Nat → List D → Store → Prop, I 0 [] S1 ∧ Lc K g tt te vs ρ ds S1.length I ∧ ∀ acc S', S'.length = S1.length → I ds.length acc S' → Φ (.dat (.lst acc)) S') : Wp K (tLc wi g tt te vs) ρ S Φ := fun A σ H f Q q =>
  h A σ H f _ fun ds S1 A1 J H1 ⟨I, i0, lc, fin⟩ g1 so1 it p hp => by
    obtain ⟨sop, gp⟩ := so1.add (m := .ls []) (o := .lst []) hp fun X g => ⟨[], upd_same, .nil⟩
    have la := so1.len
    refine ⟨fun i m H' => m = ds.length - i ∧ i ≤ ds.length ∧ ∃ acc S', I i acc S' ∧ S'.length = S1.length ∧ Gr (A1 ++ [p]) (S1 ++ [.ls []]) (upd H1 p (.lst [])) (A1 ++ [p]) (S' ++ [.ls acc]) H' ∧ SOk K (A1 ++ [p]) (S' ++ [.ls acc]) H', ⟨ds.length, by simp, Nat.zero_le _, [], S1, i0, rfl, .refl, sop⟩, ?_⟩
    rintro i m H' ⟨rfl, hi, acc, S', hI, hl, g2, so2⟩
    have ap : (A1 ++ [p])[S'.length]? = some p := by
      rw [hl, ← la, List.getElem?_append_right (Nat.le_refl _), Nat.sub_self]
      rfl
    have sp : ∀ (S' : Store) (acc : List D), (S' ++ [MO.ls acc])[S'.length]? = some (.ls acc) := fun S' acc => by
      rw [List.getElem?_append_right (Nat.le_refl _), Nat.sub_self]
      rfl
    have g12 := gp.trans g2
    obtain ⟨go, stop⟩ := it _ H' g12.gw fun a l => so2.dom l
    by_cases lt : i < ds.length
    · obtain ⟨go1, go2⟩ := go i ds[i] (List.getElem?_eq_getElem lt)
      refine .inr ⟨go1, fun H5 => ∃ acc S5, I (i + 1) acc S5 ∧ S5.length = S1.length ∧ Gr (A1 ++ [p]) (S1 ++ [.ls []]) (upd H1 p (.lst [])) (A1 ++ [p]) (S5 ++ [.ls acc]) H5 ∧ SOk K (A1 ++ [p]) (S5 ++ [.ls acc]) H5, fun H5 q => ⟨ds.length - (i + 1), by omega, rfl, lt, q⟩, fun x H3 y => ?_⟩
      obtain ⟨e3, rx⟩ := go2 x H3 y
      have so3 := so2.ex e3
      have g13 : Gr A S H (A1 ++ [p]) (S' ++ [.ls acc]) H3 := (g1.trans g12).trans (Gr.ex e3)
      have gq3 := g2.trans (Gr.ex (A := A1 ++ [p]) (S := S' ++ [.ls acc]) e3)
      obtain ⟨la, hw⟩ := lc.step i ds[i] acc S' (List.getElem?_eq_getElem lt) hl hI
      refine hw (A1 ++ [p]) (L2.wipe σ vs) H3 x ⟨so3, (f.en.go g13).wipe vs⟩ rx _ fun ρ2 σ2 hw l2 s2 en2 => ⟨wipe_same l2 s2, hw (A1 ++ [p]) σ2 H3 ⟨so3, en2⟩ _ fun b S4 A4 H4 hb g4 so4 => ?_⟩
      have pre4 := g4.pre
      cases b with
      | false =>
        obtain ⟨S5, e5, l5, hI5⟩ := hb.2 rfl
        subst e5
        have ea : A4 = A1 ++ [p] := pre_eq pre4 (by rw [so4.len, List.length_append, List.length_append]; simp; omega)
        subst ea
        exact ⟨acc, S5, hI5, l5, gq3.trans g4, so4⟩
      | true =>
        refine hb.1 rfl A4 σ2 H4 ⟨so4, en2.go g4⟩ _ fun r S6 A6 v H6 ⟨y, S5, er, e5, l5, hI5⟩ g6 so6 r6 => ?_
        subst er e5
        have pre6 := pre4.trans g6.pre
        have ea : A6 = A1 ++ [p] := pre_eq pre6 (by rw [so6.len, List.length_append, List.length_append]; simp; omega)
        subst ea
        have ap6 : (A1 ++ [p])[S5.length]? = some p := by
          rw [l5, ← hl]
          exact ap
        obtain ⟨xs, hx, l⟩ := so6.ok _ p _ ap6 (sp S5 acc)
        obtain ⟨so7, g7⟩ := so6.put (m' := .ls (acc ++ [y])) (o := .lst (xs ++ [v])) ap6 (sp S5 acc) nofun nofun fun X _ g => ⟨_, upd_same, (RepL.go g l).append (.cons (Rep.go g r6) .nil)⟩
        have es : (S5 ++ [MO.ls acc]).set S5.length (.ls (acc ++ [y])) = S5 ++ [MO.ls (acc ++ [y])] := by
          rw [List.set_append_right _ _ (Nat.le_refl _), Nat.sub_self]
          rfl
        rw [es] at so7 g7
        exact ⟨xs, hx, sz_lt (by rw [← l.length]; exact la), acc ++ [y], S5, hI5, l5, ((gq3.trans g4).trans g6).trans g7, so7⟩
    · have ei : i = ds.length := by omega
      subst ei
      obtain ⟨xs, hx, l⟩ := so2.ok _ p _ ap (sp S' acc)
      obtain ⟨so3, g3⟩ := so2.cut
      have et : (S' ++ [MO.ls acc]).take A1.length = S' := by
        rw [la, ← hl, List.take_left]
      rw [et] at so3 g3
      have np : ¬ Lv A1 S' p := fun ⟨k, m, hk, _⟩ => by
        have lk := (List.getElem?_eq_some_iff.mp hk).1
        have h1 : (A1 ++ [p])[k]? = some p := by
          rw [List.getElem?_append_left lk]
          exact hk
        have := nd_inj so2.nd h1 ap
        omega
      exact .inl ⟨stop, q _ S' A1 _ H' (fin acc S' hl hI) ⟨g1.pre, (g1.gw.trans (gp.gw.trans g2.gw)).trans g3⟩ so3 (.lst np hx (l.go g3))⟩
/-- each turn gives what es tells, and leaves the store -/
theorem wp_lcM {vs : List Nat} (h : WpI K wi ρ S fun ds S1 => ∃ es : List D, es.length = ds.length ∧ ds.length < 100000 ∧ (∀ (i : Nat) (d e : D) (S0 : Store), ds[i]? = some d → es[i]? = some e → WpGc K g (.dat d) (wipeR ρ vs) S0 vs fun ρ2 => ∀ Φ : R → Store → Prop, Φ (.dat e) S0 → Wp K te ρ2 S0 Φ) ∧ Φ (.dat (.lst es)) S1) : Wp K (tLc wi g tYes te vs) ρ S Φ :=
  wp_lc fun A σ H f Q q => h A σ H f Q fun ds S1 A1 J H1 ⟨es, el, lt, st, k⟩ => q ds S1 A1 J H1 ⟨fun i acc S' => acc = es.take i ∧ S' = S1, ⟨by simp, rfl⟩, ⟨fun i d acc S' hd hl ⟨ea, e2⟩ => by
    subst ea e2
    have li := (List.getElem?_eq_some_iff.mp hd).1
    have le : i < es.length := by omega
    refine ⟨by rw [List.length_take]; omega, fun A σ H v f rr Q q => st i d es[i] _ hd (List.getElem?_eq_getElem le) A σ H v f rr Q fun ρ2 σ2 k2 => q ρ2 σ2 (wt_yes ⟨fun _ => k2 _ ⟨es[i], S', rfl, rfl, rfl, ?_, rfl⟩, nofun⟩)⟩
    rw [List.take_succ, List.getElem?_eq_getElem le]
    rfl⟩, fun acc S' _ ⟨ea, e2⟩ => by
    subst ea e2
    rw [← el, List.take_length]
    exact k⟩
/-- .. some turns give nothing -/
theorem wp_lcF {vs : List Nat} (h : WpI K wi ρ S fun ds S1 => ∃ es : List (Option D), es.length = ds.length ∧ ds.length < 100000 ∧ (∀ (i : Nat) (d : D) (e : Option D) (S0 : Store), ds[i]? = some d → es[i]? = some e → WpGc K g (.dat d) (wipeR ρ vs) S0 vs fun ρ2 =>
      ∀ Φ : Bool → Store → Prop, Φ e.isSome S0 → WpT K tt ρ2 S0 Φ ∧ ∀ y, e = some y → ∀ Φ : R → Store → Prop, Φ (.dat y) S0 → Wp K te ρ2 S0 Φ) ∧ Φ (.dat (.lst (es.filterMap id))) S1) : Wp K (tLc wi g tt te vs) ρ S Φ :=
  wp_lc fun A σ H f Q q => h A σ H f Q fun ds S1 A1 J H1 ⟨es, el, lt, st, k⟩ => q ds S1 A1 J H1 ⟨fun i acc S' => acc = (es.take i).filterMap id ∧ S' = S1, ⟨by simp, rfl⟩, ⟨fun i d acc S' hd hl ⟨ea, e2⟩ => by
    subst ea e2
    have li := (List.getElem?_eq_some_iff.mp hd).1
    have le : i < es.length := by omega
    have ll : ((es.take i).filterMap id).length ≤ i := by
      have h1 := List.length_filterMap_le id (es.take i)
      rw [List.length_take] at h1
      omega
    have tk : es.take (i + 1) = es.take i ++ [es[i]] := by
      rw [List.take_succ, List.getElem?_eq_getElem le]
      rfl
    refine ⟨by omega, fun A σ H v f rr Q q => st i d es[i] _ hd (List.getElem?_eq_getElem le) A σ H v f rr Q fun ρ2 σ2 k2 => q ρ2 σ2 ((k2 _ ?_).1)⟩
    refine ⟨fun hs => ?_, fun hs => ?_⟩
    · obtain ⟨y, ey⟩ := Option.isSome_iff_exists.mp hs
      refine (k2 (fun _ _ => True) trivial).2 y ey _ ⟨y, S', rfl, rfl, rfl, ?_, rfl⟩
      rw [tk, List.filterMap_append, ey]
      rfl
    · have ey : es[i] = none := by simpa using hs
      refine ⟨S', rfl, rfl, ?_, rfl⟩
      rw [tk, List.filterMap_append, ey]
      simp⟩, fun acc S' _ ⟨ea, e2⟩ => by
    subst ea e2
    rw [← el, List.take_length]
    exact k⟩
/-! ### calls -/
/-- what a def does, told without heaps: of its arguments, the store, what is wanted -/
abbrev Sd := List R → Store → (D → Store → Prop) → Prop
def lift (K : PySem.W.Frag) (sd : Sd) : Sp := fun vs H Q _ => ∃ (A : List Addr) (S : Store) (rs : List R) (Φ : D → Store → Prop), SOk K A S H ∧ RepRs K A S H rs vs ∧ sd rs S Φ ∧
  ∀ (d : D) (S' : Store) (v : V) (H' : Hp), Φ d S' → Gw (Lv A S) H (Lv A S') H' → SOk K A S' H' → Rep K (Lv A S') H' d v → Q v H'
theorem wp_call {sd : Sd} {E : XK} (h : WpA K tl ρ S fun rs S1 => sd rs S1 fun d S2 => Φ (.dat d) S2) : Wp K (tCall (lift K sd) [] E tl) ρ S Φ := fun A σ H f Q q =>
  h A σ H f _ fun rs S1 A1 vs H1 hs g1 so1 rr => ⟨A1, S1, rs, _, so1, by rw [List.append_nil]; exact rr, hs, fun d S' v H' k g so r => q _ S' A1 v H' k ⟨g1.pre, g1.gw.trans g⟩ so r⟩
def Me (K : PySem.W.Frag) (C : Addr) (m : Str) (x : R) (Φ : Prop) : Prop := ∃ c fs, x = .dat (.ins c fs) ∧ He.ga K c = C ∧ fs.lookup m = none ∧ Φ
theorem wp_meth {sd : Sd} {E : XK} {C : Addr} {m : Str} (h : Wp K ta ρ S fun x S1 => Me K C m x (WpA K tl ρ S1 fun rs S2 => sd (x :: rs) S2 fun d S3 => Φ (.dat d) S3)) : Wp K (tMeth C m (lift K sd) [] E ta tl) ρ S Φ := fun A σ H f Q q =>
  h A σ H f _ fun x S1 A1 v H1 ⟨c, fs, ex, ec, hn, hw⟩ g1 so1 rx => by
    subst ex ec
    cases rx with
    | @ins a dx _ _ gs n hx rf =>
      refine ⟨_, dx, gs, rfl, hx, rf.no hn, hw A1 σ H1 (f.go g1 so1) _ fun rs S2 A2 vs H2 hs g2 so2 rr => ⟨A2, S2, _, _, so2, .cons (RepR.go (r := .dat (.ins c fs)) g2 (.ins n hx rf)) (by rw [List.append_nil]; exact rr), hs, fun d S' v H' k g so r => q _ S' A2 v H' k ⟨(g1.trans g2).pre, (g1.trans g2).gw.trans g⟩ so r⟩⟩
/-- behind a def's body -/
def retR (Φ : D → Store → Prop) (n : Nat) (r : R) (S' : Store) : Prop := match r with | .dat d => Φ d (S'.take n) | .mu k => ∃ ds, n ≤ k ∧ S'[k]? = some (.ls ds) ∧ Φ (.lst ds) (S'.take n) | .no => False
def retN (Φ : D → Store → Prop) (n : Nat) : PR := fun _ S' => Φ .non (S'.take n)
def noP : PR := fun _ _ => False
theorem rr_dat {Φ : D → Store → Prop} {d : D} (k : Φ d S) : retR Φ S.length (.dat d) S := by
  show Φ d (S.take S.length)
  rw [List.take_length]
  exact k
theorem rr_len {Φ : D → Store → Prop} {d : D} {n : Nat} (h : S.length = n) (k : Φ d S) : retR Φ n (.dat d) S := by
  subst h
  exact rr_dat k
/-- the new list is told as data -/
theorem rr_mu {Φ : D → Store → Prop} {ds : List D} {n j : Nat} (h : S.length = n) (hj : n = j) (k : Φ (.lst ds) S) : retR Φ n (.mu j) (S ++ [.ls ds]) := by
  subst h hj
  refine ⟨ds, Nat.le_refl _, ?_, ?_⟩
  · rw [List.getElem?_append_right (Nat.le_refl _), Nat.sub_self]
    rfl
  · rw [List.take_left]
    exact k
theorem start_ok {N : List Str} {rs : List R} {vs : List V} (r : RepRs K A S H rs vs) (n : Nat) (hn : n = N.length - rs.length) : EnvOk K A S H (rs ++ List.replicate n .no) (L2.start N vs) := by
  have hl : rs.length = vs.length := Paired.length r
  refine ⟨?_, fun i q e => ?_⟩
  · unfold L2.start
    rw [List.length_append, List.length_append, List.length_map, List.length_replicate, List.length_replicate, hn, hl]
  · by_cases lt : i < rs.length
    · rw [List.getElem?_append_left lt] at e
      have go : ∀ {rs : List R} {vs : List V} {i : Nat}, RepRs K A S H rs vs → rs[i]? = some q → ∃ v, vs[i]? = some v ∧ RepR K A S H q v := by
        intro rs vs i r e
        induction rs generalizing vs i with
        | nil => simp at e
        | cons x rs ih =>
          cases r with
          | cons a b =>
            cases i with
            | zero => simp at e; subst e; exact ⟨_, rfl, a⟩
            | succ i => simpa using ih b (by simpa using e)
      obtain ⟨v, hv, rv⟩ := go r e
      refine .inr ⟨v, ?_, rv⟩
      unfold L2.start
      rw [List.getElem?_append_left (by rw [List.length_map, ← hl]; exact lt), List.getElem?_map, hv]
      rfl
    · rw [List.getElem?_append_right (by omega)] at e
      exact .inl (List.eq_of_mem_replicate (List.mem_of_getElem? e))
theorem fn_body {N : List Str} {rs : List R} {vs : List V} {Q : VK} {Φ : D → Store → Prop} (n : Nat) (hn : n = N.length - rs.length) (so : SOk K A S H) (rr : RepRs K A S H rs vs)
    (k : ∀ (d : D) (S' : Store) (v : V) (H' : Hp), Φ d S' → Gw (Lv A S) H (Lv A S') H' → SOk K A S' H' → Rep K (Lv A S') H' d v → Q v H') (h : WpS K t (rs ++ List.replicate n .no) S (retN Φ S.length) (retR Φ S.length) noP noP) : t { nx := fun _ H' => Q .non H', rt := Q } (L2.start N vs) H := by
  have fin : ∀ (d : D) (S' : Store) (A' : List Addr) (v : V) (H' : Hp), Φ d (S'.take S.length) → Gr A S H A' S' H' → SOk K A' S' H' → (Gw (Lv A' S') H' (Lv A (S'.take S.length)) H' → (∀ a, a ∈ A' → a ∉ A → ¬ Lv A (S'.take S.length) a) → Rep K (Lv A (S'.take S.length)) H' d v) → Q v H' := fun d S' A' v H' p g so' r => by
    obtain ⟨A1, rfl⟩ := g.pre
    obtain ⟨so2, g2⟩ := so'.cut
    rw [so.len] at so2 g2
    exact k d _ v H' p (g.gw.trans g2) so2 (r g2 fun a _ na ⟨j, m, hj, _⟩ => na (List.mem_of_getElem? hj))
  refine h A _ H ⟨so, start_ok rr n hn⟩ _ ⟨fun ρ' S' A' σ' H' p g f => fin .non S' A' _ H' p g f.st fun _ _ => .non, fun r S' A' v H' p g so' r' => ?_, fun _ _ _ _ _ p => p.elim, fun _ _ _ _ _ p => p.elim⟩
  cases r with
  | dat d => exact fin d S' A' v H' p g so' fun g2 _ => Rep.go g2 r'
  | mu j =>
    obtain ⟨ds, hj, hs, p⟩ := p
    obtain ⟨a, ha, rfl⟩ := r'
    obtain ⟨xs, hx, l⟩ := so'.ok j a _ ha hs
    refine fin _ S' A' _ H' p g so' fun g2 nn => .lst (nn a (List.mem_of_getElem? ha) fun ma => ?_) hx (l.go g2)
    obtain ⟨A1, rfl⟩ := g.pre
    obtain ⟨i, li, ei⟩ := List.getElem_of_mem ma
    have h1 : (A ++ A1)[i]? = some a := by
      rw [List.getElem?_append_left li, List.getElem?_eq_getElem li, ei]
    have := nd_inj so'.nd h1 ha
    have := so.len
    omega
  | no => exact p.elim
end
end Dl
/-! Operations on data. -/
namespace Dl
open PySem PySem.Spec PyProof.Rows L2 _root_.Evl
section
variable {K : PySem.W.Frag} {A : List Addr} {S : Store} {H H' : Hp} {X : Addr → Prop} {Φ : R → Prop}
theorem op2_val {r : R2} {x y z : R} (h : ∀ (A : List Addr) (H : Hp) (v w : V), SOk K A S H → RepR K A S H x v → RepR K A S H y w → ∃ u, RepR K A S H z u ∧ ∀ Q : VK, Q u H → r v w H Q) (k : Φ z) : Op2 K r x y S Φ := fun A H v w so rx ry Q q => by
  obtain ⟨u, ru, hr⟩ := h A H v w so rx ry
  exact hr Q (q z u H k (Ex.refl _) ru)
theorem cb_val {r : List V → Hp → VK → Prop} {xs : List R} {z : R} (h : ∀ (A : List Addr) (H : Hp) (vs : List V), SOk K A S H → RepRs K A S H xs vs → ∃ u, RepR K A S H z u ∧ ∀ Q : VK, Q u H → r vs H Q) (k : Φ z) : Cb K r xs S Φ := fun A H vs so rx Q q => by
  obtain ⟨u, ru, hr⟩ := h A H vs so rx
  exact hr Q (q z u H k (Ex.refl _) ru)
theorem reps1 {x : R} {vs : List V} (r : RepRs K A S H [x] vs) : ∃ v, vs = [v] ∧ RepR K A S H x v := by
  cases r with
  | cons a b => cases b; exact ⟨_, rfl, a⟩
theorem reps2 {x y : R} {vs : List V} (r : RepRs K A S H [x, y] vs) : ∃ v w, vs = [v, w] ∧ RepR K A S H x v ∧ RepR K A S H y w := by
  cases r with
  | cons a b => cases b with | cons b c => cases c; exact ⟨_, _, rfl, a, b⟩
/-! ints -/
theorem o_Ii {i j : Int} {g : Int → Int → Int} (k : Φ (.dat (.int (g i j)))) : Op2 K (rI0 fun i j => .int (g i j)) (.dat (.int i)) (.dat (.int j)) S Φ := op2_val (fun A H v w so rx ry => by
  obtain rfl := rep_int rx
  obtain rfl := rep_int ry
  exact ⟨_, Rep.int _, fun Q q => ⟨i, j, rfl, rfl, q⟩⟩) k
theorem o_Ib {i j : Int} {g : Int → Int → Bool} (k : Φ (.dat (.bl (g i j)))) : Op2 K (rI0 fun i j => .bl (g i j)) (.dat (.int i)) (.dat (.int j)) S Φ := op2_val (fun A H v w so rx ry => by
  obtain rfl := rep_int rx
  obtain rfl := rep_int ry
  exact ⟨_, Rep.bl _, fun Q q => ⟨i, j, rfl, rfl, q⟩⟩) k
theorem o_Ci {C : Int → Int → Prop} {i j : Int} {g : Int → Int → Int} (hc : C i j) (k : Φ (.dat (.int (g i j)))) : Op2 K (rI C fun i j => .int (g i j)) (.dat (.int i)) (.dat (.int j)) S Φ := op2_val (fun A H v w so rx ry => by
  obtain rfl := rep_int rx
  obtain rfl := rep_int ry
  exact ⟨_, Rep.int _, fun Q q => ⟨i, j, rfl, rfl, hc, q⟩⟩) k
theorem o_powL {i j : Int} (h1 : 0 ≤ j) (h2 : j ≤ 1000000) (h3 : i.natAbs < 2 ^ 64) (k : Φ (.dat (.int (i ^ j.toNat)))) : Op2 K (rI CPow fun i j => .int (i ^ j.toNat)) (.dat (.int i)) (.dat (.int j)) S Φ := o_Ci ⟨h1, h2, h3⟩ k
theorem o_mod {i j : Int} (h : 0 < j) (k : Φ (.dat (.int (i % j)))) : Op2 K (rI (fun _ j => 0 < j) fun i j => .int (i % j)) (.dat (.int i)) (.dat (.int j)) S Φ := o_Ci h k
theorem o_mul {i j : Int} (n m : Nat) (hi : i.natAbs < 2 ^ n) (hj : j.natAbs < 2 ^ m) (h : n + m < 999990) (k : Φ (.dat (.int (i * j)))) : Op2 K (rI CMulW fun i j => .int (i * j)) (.dat (.int i)) (.dat (.int j)) S Φ := o_Ci (wide_mul (a := n + 1) (b := m + 1) (pow_big hi (by omega)) (pow_big hj (by omega)) (by omega) (by omega) (by omega)) k
/-- a small factor -/
theorem o_mulS {i j : Int} (hi : i.natAbs < 2 ^ 64) (hj : j.natAbs < 2 ^ 64) (k : Φ (.dat (.int (i * j)))) : Op2 K (rI CMulW fun i j => .int (i * j)) (.dat (.int i)) (.dat (.int j)) S Φ := o_mul 64 64 hi hj (by decide) k
theorem o_fdiv {i j : Int} (n : Nat) (h : 0 < j) (hj : j.natAbs < 2 ^ n) (hn : n < 9000) (k : Φ (.dat (.int (i / j)))) : Op2 K (rI CDivW fun i j => .int (i / j)) (.dat (.int i)) (.dat (.int j)) S Φ := o_Ci (wide_div (b := n + 1) h (pow_big hj (by omega)) (by omega) (by omega)) k
theorem o_divC {i j : Int} (h : 0 < j) (h' : j < 1073741824) (k : Φ (.dat (.int (i / j)))) : Op2 K (rI CDiv fun i j => .int (i / j)) (.dat (.int i)) (.dat (.int j)) S Φ := o_Ci ⟨h, h'⟩ k
theorem o_fdivS {i j : Int} (h : 0 < j) (hj : j.natAbs < 2 ^ 64) (k : Φ (.dat (.int (i / j)))) : Op2 K (rI CDivW fun i j => .int (i / j)) (.dat (.int i)) (.dat (.int j)) S Φ := o_fdiv 64 h hj (by decide) k
theorem u_neg {i : Int} (k : Φ (.dat (.int (-i)))) : Op1 K (rU fun i => .int (-i)) (.dat (.int i)) S Φ := fun A H v so rx Q q => by
  obtain rfl := rep_int rx
  exact ⟨i, rfl, q _ _ H k (Ex.refl _) (.int _)⟩
theorem ip_I {i j : Int} {f : Int → Int → Int} (k : Φ (.dat (.int (f i j)))) : Op2 K (ipI f) (.dat (.int i)) (.dat (.int j)) S Φ := op2_val (fun A H v w so rx ry => by
  obtain rfl := rep_int rx
  obtain rfl := rep_int ry
  exact ⟨_, Rep.int _, fun Q q => ⟨i, j, rfl, rfl, q⟩⟩) k
/-! equality of flat things -/
theorem o_eqI {i j : Int} (k : Φ (.dat (.bl (decide (i = j))))) : Op2 K rEq (.dat (.int i)) (.dat (.int j)) S Φ := op2_val (fun A H v w so rx ry => by
  obtain rfl := rep_int rx
  obtain rfl := rep_int ry
  exact ⟨_, Rep.bl _, fun Q q => ⟨rfl, by rw [show decide (V.int i = V.int j) = decide (i = j) from by simp]; exact q⟩⟩) k
theorem o_neI {i j : Int} (k : Φ (.dat (.bl (!decide (i = j))))) : Op2 K rNe (.dat (.int i)) (.dat (.int j)) S Φ := op2_val (fun A H v w so rx ry => by
  obtain rfl := rep_int rx
  obtain rfl := rep_int ry
  exact ⟨_, Rep.bl _, fun Q q => ⟨rfl, by rw [show decide (V.int i = V.int j) = decide (i = j) from by simp]; exact q⟩⟩) k
theorem o_eqS {i j : Str} (k : Φ (.dat (.bl (decide (i = j))))) : Op2 K rEq (.dat (.str i)) (.dat (.str j)) S Φ := op2_val (fun A H v w so rx ry => by
  obtain rfl := rep_str rx
  obtain rfl := rep_str ry
  exact ⟨_, Rep.bl _, fun Q q => ⟨rfl, by rw [show decide (V.str i = V.str j) = decide (i = j) from by simp]; exact q⟩⟩) k
theorem o_neS {i j : Str} (k : Φ (.dat (.bl (!decide (i = j))))) : Op2 K rNe (.dat (.str i)) (.dat (.str j)) S Φ := op2_val (fun A H v w so rx ry => by
  obtain rfl := rep_str rx
  obtain rfl := rep_str ry
  exact ⟨_, Rep.bl _, fun Q q => ⟨rfl, by rw [show decide (V.str i = V.str j) = decide (i = j) from by simp]; exact q⟩⟩) k
theorem o_eqB {i j : Bool} (k : Φ (.dat (.bl (decide (i = j))))) : Op2 K rEq (.dat (.bl i)) (.dat (.bl j)) S Φ := op2_val (fun A H v w so rx ry => by
  obtain rfl := rep_bl rx
  obtain rfl := rep_bl ry
  exact ⟨_, Rep.bl _, fun Q q => ⟨rfl, by rw [show decide (V.bl i = V.bl j) = decide (i = j) from by simp]; exact q⟩⟩) k
theorem o_neB {i j : Bool} (k : Φ (.dat (.bl (!decide (i = j))))) : Op2 K rNe (.dat (.bl i)) (.dat (.bl j)) S Φ := op2_val (fun A H v w so rx ry => by
  obtain rfl := rep_bl rx
  obtain rfl := rep_bl ry
  exact ⟨_, Rep.bl _, fun Q q => ⟨rfl, by rw [show decide (V.bl i = V.bl j) = decide (i = j) from by simp]; exact q⟩⟩) k
/-! None -/
def D.isNon : D → Bool
  | .non => true
  | _ => false
theorem rep_isNon {d : D} {v : V} (h : Rep K X H d v) : decide (v = .non) = d.isNon := by
  cases h <;> rfl
theorem o_isN {d : D} (k : Φ (.dat (.bl d.isNon))) : Op2 K (fun x y H Q => y = .non ∧ Q (.bl (decide (x = .non))) H) (.dat d) (.dat .non) S Φ := op2_val (fun A H v w so rx ry => by
  obtain rfl := rep_non ry
  exact ⟨_, Rep.bl _, fun Q q => ⟨rfl, by rw [rep_isNon rx]; exact q⟩⟩) k
theorem o_notN {d : D} (k : Φ (.dat (.bl (!d.isNon)))) : Op2 K (fun x y H Q => y = .non ∧ Q (.bl (!decide (x = .non))) H) (.dat d) (.dat .non) S Φ := op2_val (fun A H v w so rx ry => by
  obtain rfl := rep_non ry
  exact ⟨_, Rep.bl _, fun Q q => ⟨rfl, by rw [rep_isNon rx]; exact q⟩⟩) k
/-! items -/
theorem RepL.atI {ds : List D} {xs : List V} {i : Int} {d : D} (l : RepL K X H ds xs) (h : atI ds i = some d) : ∃ v, L2.atI xs i = some v ∧ Rep K X H d v := by
  unfold L2.atI at h ⊢
  rw [← l.length]
  cases e : ixN ds.length i with
  | none => rw [e] at h; cases h
  | some j => rw [e] at h; exact l.get h
theorem at_nat {ds : List D} {n : Nat} {d : D} (h : ds[n]? = some d) : atI ds (n : Int) = some d := atI_nat h
theorem at_zero {x : D} {ds : List D} : atI (x :: ds) 0 = some x := at_nat (n := 0) rfl
theorem at_one {x y : D} {ds : List D} : atI (x :: y :: ds) 1 = some y := at_nat (n := 1) rfl
theorem at_two {x y z : D} {ds : List D} : atI (x :: y :: z :: ds) 2 = some z := at_nat (n := 2) rfl
theorem at_int {ds : List D} {i : Int} (h0 : 0 ≤ i) (h1 : i < ds.length) : atI ds i = some (ds[i.toNat]'(by omega)) := by
  obtain ⟨n, rfl⟩ := Int.eq_ofNat_of_zero_le h0
  exact at_nat (List.getElem?_eq_getElem (by omega))
theorem o_ixT {ds : List D} {i : Int} {d : D} (h : atI ds i = some d) (k : Φ (.dat d)) : Op2 K (rIxT K) (.dat (.tup ds)) (.dat (.int i)) S Φ := op2_val (fun A H v w so rx ry => by
  obtain rfl := rep_int ry
  obtain ⟨a, xs, rfl, sq, l⟩ := rep_tup rx
  obtain ⟨v, hv, rv⟩ := l.atI h
  exact ⟨v, rv, fun Q q => ⟨a, xs, i, v, rfl, rfl, sq, hv, q⟩⟩) k
theorem o_ixF {ds : List D} {i : Int} {d : D} (h : atI ds i = some d) (k : Φ (.dat d)) : Op2 K (rIxT K) (.dat (.ftup ds)) (.dat (.int i)) S Φ := op2_val (fun A H v w so rx ry => by
  obtain rfl := rep_int ry
  obtain ⟨a, xs, rfl, sq, l⟩ := rep_ftup rx
  obtain ⟨v, hv, rv⟩ := l.atI h
  exact ⟨v, rv, fun Q q => ⟨a, xs, i, v, rfl, rfl, sq, hv, q⟩⟩) k
theorem o_ixL {ds : List D} {i : Int} {d : D} (h : atI ds i = some d) (k : Φ (.dat d)) : Op2 K (rIxL K) (.dat (.lst ds)) (.dat (.int i)) S Φ := op2_val (fun A H v w so rx ry => by
  obtain rfl := rep_int ry
  obtain ⟨a, xs, rfl, sq, l⟩ := rep_lst rx
  obtain ⟨v, hv, rv⟩ := l.atI h
  exact ⟨v, rv, fun Q q => ⟨a, xs, i, v, rfl, rfl, sq, hv, q⟩⟩) k
theorem o_ixFl {ds : List D} {i : Int} {d : D} (h : atI ds i = some d) (k : Φ (.dat d)) : Op2 K (rIxL K) (.dat (.flst ds)) (.dat (.int i)) S Φ := op2_val (fun A H v w so rx ry => by
  obtain rfl := rep_int ry
  obtain ⟨a, xs, rfl, sq, l⟩ := rep_flst rx
  obtain ⟨v, hv, rv⟩ := l.atI h
  exact ⟨v, rv, fun Q q => ⟨a, xs, i, v, rfl, rfl, sq, hv, q⟩⟩) k
theorem rep_mu {j : Nat} {v : V} {ds : List D} (so : SOk K A S H) (r : RepR K A S H (.mu j) v) (h : S[j]? = some (.ls ds)) : ∃ a xs, v = .ref a ∧ H a = some (.lst xs) ∧ RepL K (Lv A S) H ds xs := by
  obtain ⟨a, ha, rfl⟩ := r
  obtain ⟨xs, hx, l⟩ := so.ok j a _ ha h
  exact ⟨a, xs, rfl, hx, l⟩
theorem o_ixM {j : Nat} {ds : List D} {i : Int} {d : D} (hj : S[j]? = some (.ls ds)) (h : atI ds i = some d) (k : Φ (.dat d)) : Op2 K (rIxL K) (.mu j) (.dat (.int i)) S Φ := op2_val (fun A H v w so rx ry => by
  obtain rfl := rep_int ry
  obtain ⟨a, xs, rfl, hx, l⟩ := rep_mu so rx hj
  obtain ⟨v, hv, rv⟩ := l.atI h
  exact ⟨v, rv, fun Q q => ⟨a, xs, i, v, rfl, rfl, sq_of hx, hv, q⟩⟩) k
theorem o_ixS {z : Str} {i : Int} {c : Nat} (hz : z.length ≤ 100000) (h : atI z.cps.toList i = some c) (k : Φ (.dat (.str ⟨#[c]⟩))) : Op2 K rIxS (.dat (.str z)) (.dat (.int i)) S Φ := op2_val (fun A H v w so rx ry => by
  obtain rfl := rep_str rx
  obtain rfl := rep_int ry
  exact ⟨_, Rep.str _, fun Q q => ⟨z, i, c, rfl, rfl, sz_of hz, h, q⟩⟩) k
/-! len -/
abbrev rLen (K : PySem.W.Frag) : List V → Hp → VK → Prop := fun xs H Q => ∃ p ys, xs = [.ref p] ∧ (SqL K H p ys ∨ SqT K H p ys) ∧ Q (.int (ys.length : Nat)) H
theorem c_lenT {ds : List D} (k : Φ (.dat (.int (ds.length : Nat)))) : Cb K (fun xs H Q => ∃ p ys, xs = [.ref p] ∧ (SqL K H p ys ∨ SqT K H p ys) ∧ Q (.int (ys.length : Nat)) H) [.dat (.tup ds)] S Φ := cb_val (fun A H vs so rx => by
  obtain ⟨v, rfl, r⟩ := reps1 rx
  obtain ⟨a, xs, rfl, sq, l⟩ := rep_tup r
  exact ⟨.int (ds.length : Nat), .int _, fun Q q => ⟨a, xs, rfl, .inr sq, by rw [← l.length]; exact q⟩⟩) k
theorem c_lenF {ds : List D} (k : Φ (.dat (.int (ds.length : Nat)))) : Cb K (fun xs H Q => ∃ p ys, xs = [.ref p] ∧ (SqL K H p ys ∨ SqT K H p ys) ∧ Q (.int (ys.length : Nat)) H) [.dat (.ftup ds)] S Φ := cb_val (fun A H vs so rx => by
  obtain ⟨v, rfl, r⟩ := reps1 rx
  obtain ⟨a, xs, rfl, sq, l⟩ := rep_ftup r
  exact ⟨.int (ds.length : Nat), .int _, fun Q q => ⟨a, xs, rfl, .inr sq, by rw [← l.length]; exact q⟩⟩) k
theorem c_lenL {ds : List D} (k : Φ (.dat (.int (ds.length : Nat)))) : Cb K (fun xs H Q => ∃ p ys, xs = [.ref p] ∧ (SqL K H p ys ∨ SqT K H p ys) ∧ Q (.int (ys.length : Nat)) H) [.dat (.lst ds)] S Φ := cb_val (fun A H vs so rx => by
  obtain ⟨v, rfl, r⟩ := reps1 rx
  obtain ⟨a, xs, rfl, sq, l⟩ := rep_lst r
  exact ⟨.int (ds.length : Nat), .int _, fun Q q => ⟨a, xs, rfl, .inl sq, by rw [← l.length]; exact q⟩⟩) k
theorem c_lenFl {ds : List D} (k : Φ (.dat (.int (ds.length : Nat)))) : Cb K (fun xs H Q => ∃ p ys, xs = [.ref p] ∧ (SqL K H p ys ∨ SqT K H p ys) ∧ Q (.int (ys.length : Nat)) H) [.dat (.flst ds)] S Φ := cb_val (fun A H vs so rx => by
  obtain ⟨v, rfl, r⟩ := reps1 rx
  obtain ⟨a, xs, rfl, sq, l⟩ := rep_flst r
  exact ⟨.int (ds.length : Nat), .int _, fun Q q => ⟨a, xs, rfl, .inl sq, by rw [← l.length]; exact q⟩⟩) k
theorem c_lenM {j : Nat} {ds : List D} (hj : S[j]? = some (.ls ds)) (k : Φ (.dat (.int (ds.length : Nat)))) : Cb K (fun xs H Q => ∃ p ys, xs = [.ref p] ∧ (SqL K H p ys ∨ SqT K H p ys) ∧ Q (.int (ys.length : Nat)) H) [.mu j] S Φ := cb_val (fun A H vs so rx => by
  obtain ⟨v, rfl, r⟩ := reps1 rx
  obtain ⟨a, xs, rfl, hx, l⟩ := rep_mu so r hj
  exact ⟨.int (ds.length : Nat), .int _, fun Q q => ⟨a, xs, rfl, .inl (sq_of hx), by rw [← l.length]; exact q⟩⟩) k
theorem c_lenS {z : Str} (hz : z.length ≤ 100000) (k : Φ (.dat (.int (z.length : Nat)))) : Cb K (fun xs H Q => ∃ z, xs = [.str z] ∧ z.length ≤ sizeLine ∧ Q (.int (z.length : Nat)) H) [.dat (.str z)] S Φ := cb_val (fun A H vs so rx => by
  obtain ⟨v, rfl, r⟩ := reps1 rx
  obtain rfl := rep_str r
  exact ⟨_, Rep.int _, fun Q q => ⟨z, rfl, sz_of hz, q⟩⟩) k
/-! abs, max, min, int -/
theorem c_abs {i : Int} (k : Φ (.dat (.int (i.natAbs : Nat)))) : Cb K (fun xs H Q => ∃ i, xs = [.int i] ∧ Q (.int (if i < 0 then -i else i)) H) [.dat (.int i)] S Φ := cb_val (fun A H vs so rx => by
  obtain ⟨v, rfl, r⟩ := reps1 rx
  obtain rfl := rep_int r
  have e : (if i < 0 then -i else i) = (i.natAbs : Int) := by
    by_cases h : i < 0
    · rw [if_pos h]
      omega
    · rw [if_neg h]
      omega
  exact ⟨_, Rep.int _, fun Q q => ⟨i, rfl, by rw [e]; exact q⟩⟩) k
theorem c_max {i j : Int} (k : Φ (.dat (.int (max i j)))) : Cb K (fun xs H Q => ∃ i j, xs = [.int i, .int j] ∧ Q (.int (if j > i then j else i)) H) [.dat (.int i), .dat (.int j)] S Φ := cb_val (fun A H vs so rx => by
  obtain ⟨v, w, rfl, r1, r2⟩ := reps2 rx
  obtain rfl := rep_int r1
  obtain rfl := rep_int r2
  have e : (if j > i then j else i) = max i j := by
    by_cases h : j > i
    · rw [if_pos h]
      omega
    · rw [if_neg h]
      omega
  exact ⟨_, Rep.int _, fun Q q => ⟨i, j, rfl, by rw [e]; exact q⟩⟩) k
theorem c_min {i j : Int} (k : Φ (.dat (.int (min i j)))) : Cb K (fun xs H Q => ∃ i j, xs = [.int i, .int j] ∧ Q (.int (if j < i then j else i)) H) [.dat (.int i), .dat (.int j)] S Φ := cb_val (fun A H vs so rx => by
  obtain ⟨v, w, rfl, r1, r2⟩ := reps2 rx
  obtain rfl := rep_int r1
  obtain rfl := rep_int r2
  have e : (if j < i then j else i) = min i j := by
    by_cases h : j < i
    · rw [if_pos h]
      omega
    · rw [if_neg h]
      omega
  exact ⟨_, Rep.int _, fun Q q => ⟨i, j, rfl, by rw [e]; exact q⟩⟩) k
theorem c_intB {b : Bool} (k : Φ (.dat (.int (if b then 1 else 0)))) : Cb K (fun xs H Q => (∃ i, xs = [.int i] ∧ Q (.int i) H) ∨ ∃ k, xs = [.bl k] ∧ Q (.int (if k then 1 else 0)) H) [.dat (.bl b)] S Φ := cb_val (fun A H vs so rx => by
  obtain ⟨v, rfl, r⟩ := reps1 rx
  obtain rfl := rep_bl r
  exact ⟨_, Rep.int _, fun Q q => .inr ⟨b, rfl, q⟩⟩) k
/-! isinstance -/
def D.ty? : D → Option String
  | .non => some "NoneType" | .bl _ => some "bool" | .int _ => some "int" | .str _ => some "str" | .tup _ => some "tuple" | .ftup _ => some "tuple" | .lst _ => some "list" | .flst _ => some "list" | .dic _ => some "dict"
  | .ty _ => none | .glo _ => none | .ins _ _ => none
theorem rep_ty {d : D} {v : V} {t : String} (h : Rep K X H d v) (e : d.ty? = some t) : TyX K H v (.type t) := by
  cases h with
  | non => cases e; exact .base .non
  | bl b => cases e; exact .base (.bl b)
  | int i => cases e; exact .base (.int i)
  | str x => cases e; exact .base (.str x)
  | tup n r l =>
    cases e
    rcases r with r | ⟨o, r⟩
    · exact .base (.tup r)
    · exact .fTuple r
  | ftup n r l => cases e; exact FzT.ty r
  | lst n r l => cases e; exact .base (.lst r)
  | flst n r l =>
    cases e
    rcases r with r | ⟨o, r⟩
    · exact .base (.lst r)
    · exact .base (.frz r)
  | dic n r l => cases e; exact .base (.dK r)
  | ktup r l =>
    cases e
    rcases r (fun _ => none) with (r | ⟨o, r⟩) | ⟨o, its, n, h1, h2, _⟩
    · cases r
    · cases r
    · exact .kTuple h1 h2
  | klst r l =>
    cases e
    rcases r (fun _ => none) with (r | ⟨o, r⟩) | ⟨o, its, n, h1, h2, _⟩
    · cases r
    · cases r
    · exact .kList h1 h2
  | ty n => cases e
  | glo x => cases e
  | ins n h f => cases e
theorem c_isi {d : D} {t n : String} {b : Bool} (e : d.ty? = some t) (hk : kitB t n = some b) (k : Φ (.dat (.bl b))) : Cb K (rIsi K) [.dat d, .dat (.ty n)] S Φ := cb_val (fun A H vs so rx => by
  obtain ⟨v, w, rfl, r1, r2⟩ := reps2 rx
  cases r2
  exact ⟨_, Rep.bl _, fun Q q => ⟨v, .ty n, .type t, .type n, b, rfl, .ty n, rep_ty r1 e, kit_ty hk, q⟩⟩) k
def D.isInt : D → Bool
  | .int _ => true | .bl _ => true | _ => false
def D.isBool : D → Bool
  | .bl _ => true | _ => false
def D.isStr : D → Bool
  | .str _ => true | _ => false
def D.isTup : D → Bool
  | .tup _ => true | .ftup _ => true | _ => false
def D.isLst : D → Bool
  | .lst _ => true | .flst _ => true | _ => false
/-- a thing of a built-in kind -/
def D.Pl (d : D) : Prop := d.ty?.isSome = true
theorem c_isInt {d : D} (h : d.Pl) (k : Φ (.dat (.bl d.isInt))) : Cb K (rIsi K) [.dat d, .dat (.ty "int")] S Φ := by
  cases d <;> first | (cases h; done) | exact c_isi (t := "NoneType") (b := true) rfl (by decide +kernel) k | exact c_isi (t := "NoneType") (b := false) rfl (by decide +kernel) k | exact c_isi (t := "bool") (b := true) rfl (by decide +kernel) k | exact c_isi (t := "bool") (b := false) rfl (by decide +kernel) k | exact c_isi (t := "int") (b := true) rfl (by decide +kernel) k | exact c_isi (t := "int") (b := false) rfl (by decide +kernel) k | exact c_isi (t := "str") (b := true) rfl (by decide +kernel) k | exact c_isi (t := "str") (b := false) rfl (by decide +kernel) k | exact c_isi (t := "tuple") (b := true) rfl (by decide +kernel) k | exact c_isi (t := "tuple") (b := false) rfl (by decide +kernel) k | exact c_isi (t := "list") (b := true) rfl (by decide +kernel) k | exact c_isi (t := "list") (b := false) rfl (by decide +kernel) k | exact c_isi (t := "dict") (b := true) rfl (by decide +kernel) k | exact c_isi (t := "dict") (b := false) rfl (by decide +kernel) k
theorem c_isBool {d : D} (h : d.Pl) (k : Φ (.dat (.bl d.isBool))) : Cb K (rIsi K) [.dat d, .dat (.ty "bool")] S Φ := by
  cases d <;> first | (cases h; done) | exact c_isi (t := "NoneType") (b := true) rfl (by decide +kernel) k | exact c_isi (t := "NoneType") (b := false) rfl (by decide +kernel) k | exact c_isi (t := "bool") (b := true) rfl (by decide +kernel) k | exact c_isi (t := "bool") (b := false) rfl (by decide +kernel) k | exact c_isi (t := "int") (b := true) rfl (by decide +kernel) k | exact c_isi (t := "int") (b := false) rfl (by decide +kernel) k | exact c_isi (t := "str") (b := true) rfl (by decide +kernel) k | exact c_isi (t := "str") (b := false) rfl (by decide +kernel) k | exact c_isi (t := "tuple") (b := true) rfl (by decide +kernel) k | exact c_isi (t := "tuple") (b := false) rfl (by decide +kernel) k | exact c_isi (t := "list") (b := true) rfl (by decide +kernel) k | exact c_isi (t := "list") (b := false) rfl (by decide +kernel) k | exact c_isi (t := "dict") (b := true) rfl (by decide +kernel) k | exact c_isi (t := "dict") (b := false) rfl (by decide +kernel) k
theorem c_isStr {d : D} (h : d.Pl) (k : Φ (.dat (.bl d.isStr))) : Cb K (rIsi K) [.dat d, .dat (.ty "str")] S Φ := by
  cases d <;> first | (cases h; done) | exact c_isi (t := "NoneType") (b := true) rfl (by decide +kernel) k | exact c_isi (t := "NoneType") (b := false) rfl (by decide +kernel) k | exact c_isi (t := "bool") (b := true) rfl (by decide +kernel) k | exact c_isi (t := "bool") (b := false) rfl (by decide +kernel) k | exact c_isi (t := "int") (b := true) rfl (by decide +kernel) k | exact c_isi (t := "int") (b := false) rfl (by decide +kernel) k | exact c_isi (t := "str") (b := true) rfl (by decide +kernel) k | exact c_isi (t := "str") (b := false) rfl (by decide +kernel) k | exact c_isi (t := "tuple") (b := true) rfl (by decide +kernel) k | exact c_isi (t := "tuple") (b := false) rfl (by decide +kernel) k | exact c_isi (t := "list") (b := true) rfl (by decide +kernel) k | exact c_isi (t := "list") (b := false) rfl (by decide +kernel) k | exact c_isi (t := "dict") (b := true) rfl (by decide +kernel) k | exact c_isi (t := "dict") (b := false) rfl (by decide +kernel) k
theorem c_isTup {d : D} (h : d.Pl) (k : Φ (.dat (.bl d.isTup))) : Cb K (rIsi K) [.dat d, .dat (.ty "tuple")] S Φ := by
  cases d <;> first | (cases h; done) | exact c_isi (t := "NoneType") (b := true) rfl (by decide +kernel) k | exact c_isi (t := "NoneType") (b := false) rfl (by decide +kernel) k | exact c_isi (t := "bool") (b := true) rfl (by decide +kernel) k | exact c_isi (t := "bool") (b := false) rfl (by decide +kernel) k | exact c_isi (t := "int") (b := true) rfl (by decide +kernel) k | exact c_isi (t := "int") (b := false) rfl (by decide +kernel) k | exact c_isi (t := "str") (b := true) rfl (by decide +kernel) k | exact c_isi (t := "str") (b := false) rfl (by decide +kernel) k | exact c_isi (t := "tuple") (b := true) rfl (by decide +kernel) k | exact c_isi (t := "tuple") (b := false) rfl (by decide +kernel) k | exact c_isi (t := "list") (b := true) rfl (by decide +kernel) k | exact c_isi (t := "list") (b := false) rfl (by decide +kernel) k | exact c_isi (t := "dict") (b := true) rfl (by decide +kernel) k | exact c_isi (t := "dict") (b := false) rfl (by decide +kernel) k
theorem c_isLst {d : D} (h : d.Pl) (k : Φ (.dat (.bl d.isLst))) : Cb K (rIsi K) [.dat d, .dat (.ty "list")] S Φ := by
  cases d <;> first | (cases h; done) | exact c_isi (t := "NoneType") (b := true) rfl (by decide +kernel) k | exact c_isi (t := "NoneType") (b := false) rfl (by decide +kernel) k | exact c_isi (t := "bool") (b := true) rfl (by decide +kernel) k | exact c_isi (t := "bool") (b := false) rfl (by decide +kernel) k | exact c_isi (t := "int") (b := true) rfl (by decide +kernel) k | exact c_isi (t := "int") (b := false) rfl (by decide +kernel) k | exact c_isi (t := "str") (b := true) rfl (by decide +kernel) k | exact c_isi (t := "str") (b := false) rfl (by decide +kernel) k | exact c_isi (t := "tuple") (b := true) rfl (by decide +kernel) k | exact c_isi (t := "tuple") (b := false) rfl (by decide +kernel) k | exact c_isi (t := "list") (b := true) rfl (by decide +kernel) k | exact c_isi (t := "list") (b := false) rfl (by decide +kernel) k | exact c_isi (t := "dict") (b := true) rfl (by decide +kernel) k | exact c_isi (t := "dict") (b := false) rfl (by decide +kernel) k
/-! all, any -/
theorem repl_bl {bs : List Bool} {xs : List V} (l : RepL K X H (bs.map .bl) xs) : xs = bs.map V.bl := by
  induction bs generalizing xs with
  | nil => cases l; rfl
  | cons b bs ih => cases l with | cons h t => rw [rep_bl h, ih t]; rfl
theorem repl_int {bs : List Int} {xs : List V} (l : RepL K X H (bs.map .int) xs) : xs = bs.map V.int := by
  induction bs generalizing xs with
  | nil => cases l; rfl
  | cons b bs ih => cases l with | cons h t => rw [rep_int h, ih t]; rfl
theorem repl_str {bs : List Str} {xs : List V} (l : RepL K X H (bs.map .str) xs) : xs = bs.map V.str := by
  induction bs generalizing xs with
  | nil => cases l; rfl
  | cons b bs ih => cases l with | cons h t => rw [rep_str h, ih t]; rfl
theorem c_all {ds : List D} {bs : List Bool} (e : ds = bs.map .bl) (k : Φ (.dat (.bl (bs.all id)))) : Cb K (rAll K) [.dat (.lst ds)] S Φ := cb_val (fun A H vs so rx => by
  subst e
  obtain ⟨v, rfl, r⟩ := reps1 rx
  obtain ⟨a, xs, rfl, sq, l⟩ := rep_lst r
  rw [repl_bl l] at sq
  exact ⟨_, Rep.bl _, fun Q q => ⟨a, bs, rfl, sq, q⟩⟩) k
theorem c_any {ds : List D} {bs : List Bool} (e : ds = bs.map .bl) (k : Φ (.dat (.bl (bs.any id)))) : Cb K (rAny K) [.dat (.lst ds)] S Φ := cb_val (fun A H vs so rx => by
  subst e
  obtain ⟨v, rfl, r⟩ := reps1 rx
  obtain ⟨a, xs, rfl, sq, l⟩ := rep_lst r
  rw [repl_bl l] at sq
  exact ⟨_, Rep.bl _, fun Q q => ⟨a, bs, rfl, sq, q⟩⟩) k
end
end Dl
/-! Defs that hand back what may change; the law's pool. -/
namespace Dl
open PySem PySem.Spec PyProof.Rows L2 _root_.Evl
section
variable {K : PySem.W.Frag} {A A' A1 A2 : List Addr} {S S' S1 S2 : Store} {H H' H1 H2 : Hp} {ρ : List R} {σ : L2.St} {Φ : R → Store → Prop} {te ta tb tc : TE} {tl : TA} {t u : TS}
abbrev Sdm := List R → Store → (List D → Store → Prop) → Prop
def liftM (K : PySem.W.Frag) (sd : Sdm) : Sp := fun vs H Q _ => ∃ (A : List Addr) (S : Store) (rs : List R) (Φ : List D → Store → Prop), SOk K A S H ∧ RepRs K A S H rs vs ∧ sd rs S Φ ∧
  ∀ (ds : List D) (S' : Store) (p : Addr) (H' : Hp), Φ ds S' → Gr A S H (A ++ [p]) (S' ++ [.ls ds]) H' → SOk K (A ++ [p]) (S' ++ [.ls ds]) H' → Q (.ref p) H'
theorem last_get {α : Type} {A : List α} {p : α} {n : Nat} (h : A.length = n) : (A ++ [p])[n]? = some p := by
  subst h
  rw [List.getElem?_append_right (Nat.le_refl _), Nat.sub_self]
  rfl
theorem wp_callM {sd : Sdm} {E : XK} (h : WpA K tl ρ S fun rs S1 => sd rs S1 fun ds S2 => Φ (.mu S1.length) (S2 ++ [.ls ds])) : Wp K (tCall (liftM K sd) [] E tl) ρ S Φ := fun A σ H f Q q =>
  h A σ H f _ fun rs S1 A1 vs H1 hs g1 so1 rr => ⟨A1, S1, rs, _, so1, by rw [List.append_nil]; exact rr, hs, fun ds S' p H' k g so => q _ _ _ _ H' k (g1.trans g) so ⟨p, last_get so1.len, rfl⟩⟩
def retM (Φ : List D → Store → Prop) (n : Nat) (r : R) (S' : Store) : Prop := ∃ (ds : List D) (S0 : Store), r = .mu n ∧ S' = S0 ++ [.ls ds] ∧ S0.length = n ∧ Φ ds S0
theorem rm_mu {Φ : List D → Store → Prop} {ds : List D} (k : Φ ds S) : retM Φ S.length (.mu S.length) (S ++ [.ls ds]) := ⟨ds, S, rfl, rfl, rfl, k⟩
theorem fn_bodyM {N : List Str} {rs : List R} {vs : List V} {Q : VK} {Φ : List D → Store → Prop} (n : Nat) (hn : n = N.length - rs.length) (so : SOk K A S H) (rr : RepRs K A S H rs vs)
    (k : ∀ (ds : List D) (S' : Store) (p : Addr) (H' : Hp), Φ ds S' → Gr A S H (A ++ [p]) (S' ++ [.ls ds]) H' → SOk K (A ++ [p]) (S' ++ [.ls ds]) H' → Q (.ref p) H') (h : WpS K t (rs ++ List.replicate n .no) S noP (retM Φ S.length) noP noP) : t { nx := fun _ H' => Q .non H', rt := Q } (L2.start N vs) H := by
  refine h A _ H ⟨so, start_ok rr n hn⟩ _ ⟨fun _ _ _ _ _ p => p.elim, fun r S' A' v H' p g so' r' => ?_, fun _ _ _ _ _ p => p.elim, fun _ _ _ _ _ p => p.elim⟩
  obtain ⟨ds, S0, er, es, el, p⟩ := p
  subst er es
  obtain ⟨a, ha, rfl⟩ := r'
  obtain ⟨T, rfl⟩ := g.pre
  have hl := so'.len
  rw [List.length_append, List.length_append, so.len, el] at hl
  have ht : T.length = 1 := by simpa using hl
  obtain ⟨q, rfl⟩ := List.length_eq_one_iff.mp ht
  rw [last_get so.len] at ha
  cases ha
  exact k ds S0 _ H' p g so'
/-! ### new lists that may change -/
def WpN (K : PySem.W.Frag) (te : TE) (ρ : List R) (S : Store) (Φ : List D → Store → Prop) : Prop := ∀ (A : List Addr) (σ : L2.St) (H : Hp), Fr K A S H ρ σ → ∀ Q : VK,
  (∀ (ds : List D) (S' : Store) (A' : List Addr) (p : Addr) (H' : Hp), Φ ds S' → Gr A S H (A' ++ [p]) (S' ++ [.ls ds]) H' → SOk K (A' ++ [p]) (S' ++ [.ls ds]) H' → Q (.ref p) H') → te σ H Q
def tAsgM (te : TE) (i : Nat) : TS := tAsg te (gName i)
def tRetM (te : TE) : TS := tRet te
theorem ps_setM {X : Cx} {st : Stmt} {te : TE} {i : Nat} (h : PS X st (tAsg te (gName i))) : PS X st (tAsgM te i) := h
theorem ps_retM {X : Cx} {st : Stmt} {te : TE} (h : PS X st (tRet te)) : PS X st (tRetM te) := h
theorem ln_back {A : List Addr} {S : Store} {p : Addr} {m : MO} (so : SOk K (A ++ [p]) (S ++ [m]) H) : A.length = S.length := by
  have h := so.len
  simpa using h
section
variable {Nx Bk Ct : PR} {Rt : R → Store → Prop}
theorem ws_setM {i : Nat} (h : WpN K te ρ S fun ds S' => Nx (ρ.set i (.mu S'.length)) (S' ++ [.ls ds])) : WpS K (tAsgM te i) ρ S Nx Rt Bk Ct := fun A σ H f D e =>
  h A σ H f _ fun ds S' A' p H' k g so => e.nx _ _ _ _ H' k g ⟨so, (f.en.go g).set i (r := .mu S'.length) ⟨p, last_get (ln_back so), rfl⟩⟩
theorem ws_retM (h : WpN K te ρ S fun ds S' => Rt (.mu S'.length) (S' ++ [.ls ds])) : WpS K (tRetM te) ρ S Nx Rt Bk Ct := fun A σ H f D e =>
  h A σ H f _ fun ds S' A' p H' k g so => e.rt _ _ _ _ H' k g so ⟨p, last_get (ln_back so), rfl⟩
end
theorem wn_new {Φ : List D → Store → Prop} {A A1 : List Addr} {S S1 : Store} {H H1 : Hp} {p : Addr} {ds : List D} {vs : List V} {Q : VK} (q : ∀ (ds : List D) (S' : Store) (A' : List Addr) (p : Addr) (H' : Hp), Φ ds S' → Gr A S H (A' ++ [p]) (S' ++ [.ls ds]) H' → SOk K (A' ++ [p]) (S' ++ [.ls ds]) H' → Q (.ref p) H')
    (g1 : Gr A S H A1 S1 H1) (so1 : SOk K A1 S1 H1) (hp : H1 p = none) (l : RepL K (Lv A1 S1) H1 ds vs) (k : Φ ds S1) : Q (.ref p) (upd H1 p (.lst vs)) := by
  obtain ⟨so2, g2⟩ := so1.add (m := .ls ds) (o := .lst vs) hp fun X g => ⟨vs, upd_same, l.go g⟩
  exact q ds S1 A1 p _ k (g1.trans g2) so2
theorem wn_lst {Φ : List D → Store → Prop} (h : WpA K tl ρ S fun xs S1 => Tu xs fun ds => Φ ds S1) : WpN K (tLst tl) ρ S Φ := fun A σ H f Q q =>
  h A σ H f _ fun xs S1 A1 vs H1 ⟨ds, hd, hl, k⟩ g1 so1 r1 => by
    have l := dats_rep hd r1
    exact ⟨by rw [← l.length]; exact sz_of hl, fun p hp => wn_new q g1 so1 hp l k⟩
/-! ### the pool -/
def PoolM (m : MO) : Prop := ∃ a b c : Int, m = .ls [.int a, .int b, .int c] ∧ 0 ≤ a ∧ a < 2147483549 ∧ 0 ≤ b
def Has (k : Nat) (S : Store) : Prop := ∃ m, PoolM m ∧ S[k]? = some m
def Pk (k : Nat) (S S1 : Store) : Prop := ∃ m, PoolM m ∧ S1 = S.set k m
theorem Has.lt {k : Nat} (h : Has k S) : k < S.length := by
  obtain ⟨m, _, e⟩ := h
  exact (List.getElem?_eq_some_iff.mp e).1
theorem Pk.len {k : Nat} (h : Pk k S S1) : S1.length = S.length := by
  obtain ⟨m, _, rfl⟩ := h
  exact List.length_set ..
theorem Pk.has {k : Nat} (h : Pk k S S1) (p : Has k S) : Has k S1 := by
  have l := p.lt
  obtain ⟨m, hm, rfl⟩ := h
  exact ⟨m, hm, List.getElem?_set_self l⟩
theorem Pk.trans {k : Nat} (h : Pk k S S1) (h' : Pk k S1 S2) : Pk k S S2 := by
  obtain ⟨m, hm, rfl⟩ := h
  obtain ⟨m', hm', rfl⟩ := h'
  exact ⟨m', hm', List.set_set ..⟩
theorem Has.refl {k : Nat} (h : Has k S) : Pk k S S := by
  obtain ⟨m, hm, e⟩ := h
  refine ⟨m, hm, ?_⟩
  obtain ⟨l, e⟩ := List.getElem?_eq_some_iff.mp e
  rw [← e, List.set_getElem_self]
theorem Has.app {k : Nat} {T : Store} (h : Has k S) : Has k (S ++ T) := by
  have l := h.lt
  obtain ⟨m, hm, e⟩ := h
  exact ⟨m, hm, by rw [List.getElem?_append_left l]; exact e⟩
theorem Pk.app {k : Nat} {T : Store} (p : Has k S) (h : Pk k (S ++ T) S1) : ∃ S1', S1 = S1' ++ T ∧ Pk k S S1' := by
  obtain ⟨m, hm, rfl⟩ := h
  exact ⟨S.set k m, List.set_append_left _ _ p.lt, m, hm, rfl⟩
def sd_cell : Sd := fun rs S Φ => ∃ (ns : List Int) (k : Nat), rs = [.dat (.flst (ns.map .int)), .dat (.int (k : Nat))] ∧ k < 100 ∧ ∀ i : Int, Φ (.int i) S
def sd_pool : Sdm := fun rs S Φ => ∃ c : Int, rs = [.dat (.int c)] ∧ ∀ ds, PoolM (.ls ds) → Φ ds S
def sd_take : Sd := fun rs S Φ => ∃ (k : Nat) (m : Int), rs = [.mu k, .dat (.int m)] ∧ 0 < m ∧ m < 1073741824 ∧ Has k S ∧ ∀ (d : Int) (S1 : Store), 0 ≤ d → d < m → Pk k S S1 → Φ (.int d) S1
theorem repl_ints {X : Addr → Prop} : ∀ ns : List Int, RepL K X H (ns.map .int) (ns.map V.int)
  | [] => .nil
  | i :: ns => .cons (.int i) (repl_ints ns)
theorem take_go {k : Nat} {m : Int} {Φ : D → Store → Prop} (hp : Has k S) (m0 : 0 < m) (m1 : m < 1073741824) (q : ∀ (d : Int) (S1 : Store), 0 ≤ d → d < m → Pk k S S1 → Φ (.int d) S1) : sd_take [.mu k, .dat (.int m)] S Φ := ⟨k, m, rfl, m0, m1, hp, q⟩
/-- the script as data -/
theorem rep_script {X : Addr → Prop} {a : Addr} {ns : List Int} (n : ¬ X a) (h : SqL K H a (ns.map V.int)) : Rep K X H (.flst (ns.map .int)) (.ref a) := by
  have l : RepL K X H (ns.map .int) (ns.map V.int) := repl_ints ns
  rcases h with h | h
  · exact .flst n h l
  · exact .klst (fun _ => .inr h) l
end
end Dl
/-! Further operations on data: ranges with a step, items stored by an operator, lists and tuples put together and cut. -/
namespace L2
open PySem PySem.Spec PyProof.Rows _root_.Evl
section
variable {X : Cx}
def rGetL (K : PySem.W.Frag) : V → V → Hp → VK → Prop := fun o i H Q => ∃ (p : Addr) (xs : List V) (j : Nat) (v : V), o = .ref p ∧ i = .int (j : Nat) ∧ SqL K H p xs ∧ xs[j]? = some v ∧ Q v H
theorem get_list : PGet X (rGetL X.K) := by
  intro pins s σ H o i ov iv Q I ro ri h
  obtain ⟨p, xs, j, v, rfl, rfl, hq, he, q⟩ := h
  cases ro
  obtain ⟨t, rfl⟩ := ri
  obtain ⟨its, r, pl, hz⟩ := I.list hq
  obtain ⟨w, ew, rw'⟩ := r.get he
  have lj := (List.getElem?_eq_some_iff.mp ew).1
  have hl := r.length
  have hn := line63
  exact wpAny_getItem_list pl.isList (by omega) (by omega) (by rw [Int.toNat_natCast]; simpa using ew) ⟨v, H, I, rw', q⟩
end
end L2
namespace Dl
open PySem PySem.Spec PyProof.Rows L2 _root_.Evl
section
variable {K : PySem.W.Frag} {A A' A1 A2 : List Addr} {S S' S1 S2 : Store} {H H' H1 H2 : Hp} {ρ : List R} {σ : L2.St} {Φ : R → Store → Prop} {Φ1 : R → Prop} {te ta tb tc : TE} {tl : TA} {t u : TS} {Nx Bk Ct : PR} {Rt : R → Store → Prop} {X : Addr → Prop}
/-- xs[i] op= e, xs of the store -/
def GetM (o i : R) (S : Store) (Φ : Nat → Nat → D → Prop) : Prop := ∃ (k j : Nat) (ds : List D) (d : D), o = .mu k ∧ i = .dat (.int (j : Nat)) ∧ S[k]? = some (.ls ds) ∧ ds[j]? = some d ∧ Φ k j d
def PutM (k j : Nat) (z : R) (S : Store) (Φ : Store → Prop) : Prop := ∃ (ds : List D) (d : D), z = .dat d ∧ S[k]? = some (.ls ds) ∧ j < ds.length ∧ Φ (S.set k (.ls (ds.set j d)))
theorem ws_augS {to ti : TE} {tip : TIp} (h : Wp K to ρ S fun o S1 => Wp K ti ρ S1 fun i S2 => GetM o i S2 fun k j x => Wp K te ρ S2 fun y S3 => Op2 K tip (.dat x) y S3 fun z => PutM k j z S3 fun S4 => Nx ρ S4) :
    WpS K (tAugS to ti te (rGetL K) tip rSetL) ρ S Nx Rt Bk Ct := fun A σ H f D e =>
  h A σ H f _ fun o S1 A1 vo H1 hw g1 so1 ro => hw A1 σ H1 (f.go g1 so1) _ fun i S2 A2 vi H2 ⟨k, j, ds, d, eo, ei, hk, hd, hw2⟩ g2 so2 ri => by
    subst eo ei
    have ro2 := ro.go g2
    obtain ⟨a, ha, rfl⟩ := ro2
    obtain rfl := rep_int ri
    obtain ⟨xs, hx, l⟩ := so2.ok k a _ ha hk
    obtain ⟨v, hv, rv⟩ := l.get hd
    refine ⟨a, xs, j, v, rfl, rfl, sq_of hx, hv, hw2 A2 σ H2 (f.go (g1.trans g2) so2) _ fun y S3 A3 vy H3 ho g3 so3 ry => ho A3 H3 v vy so3 (RepR.go (r := .dat d) g3 rv) ry _ fun z vz H4 ⟨es, d2, ez, hk3, lj, p⟩ e4 rz => ?_⟩
    subst ez
    have so4 := so3.ex e4
    have ha3 := pre_get g3.pre ha
    obtain ⟨ys, hy, l4⟩ := so4.ok k a _ ha3 hk3
    have lx : j < ys.length := by rw [← l4.length]; exact lj
    refine ⟨a, ys, (j : Int), j, rfl, rfl, hy, ixN_nat lx, ?_⟩
    obtain ⟨so5, g5⟩ := so4.put (m' := .ls (es.set j d2)) (o := .lst (ys.set j vz)) ha3 hk3 nofun nofun fun X _ g => ⟨_, upd_same, (RepL.go g l4).set (Rep.go g rz) j⟩
    have gg := (((g1.trans g2).trans g3).trans (Gr.ex (A := A3) (S := S3) e4)).trans g5
    exact e.nx ρ _ A3 σ _ p gg ⟨so5, f.en.go gg⟩
/-! ranges with a step -/
def rng3 (lo hi c : Int) : List D := (List.range (Builtin.Range.rangeSize lo hi c).toNat).map fun i => D.int (lo + (i : Nat) * c)
theorem it_rngC {lo c : Int} {n : Nat} : ItOk K X H (Itc lo c n) ((List.range n).map fun i => D.int (lo + (i : Nat) * c)) := fun X' H' g _ => by
  refine ⟨fun i d hd => ?_, ?_⟩
  · have hl := (List.getElem?_eq_some_iff.mp hd).1
    rw [List.length_map, List.length_range] at hl
    rw [List.getElem?_map, List.getElem?_range hl] at hd
    cases hd
    refine ⟨hl, fun x H'' y => ?_⟩
    obtain ⟨e, y⟩ := y
    subst e y
    exact ⟨Ex.refl _, .int _⟩
  · rw [List.length_map, List.length_range]
    exact Nat.le_refl n
theorem rgc {a b c : Int} (ha : -1000000 < a ∧ a < 1000000) (hb : -1000000 < b ∧ b < 1000000) (hc : 0 < c ∧ c < 1000000) : RgC a b c (Builtin.Range.rangeSize a b c).toNat := by
  refine ⟨by omega, by omega, ?_, rangeSize_toNat _ _ _⟩
  unfold Builtin.Range.small
  unfold Builtin.Range.rangeSize
  simp only [Builtin.Range.rangeFitsLong, Bool.and_eq_true, Bool.or_eq_true, decide_eq_true_eq, beq_iff_eq, if_pos hc.1]
  split
  · have h1 := Int.ediv_nonneg (show 0 ≤ b - a - 1 by omega) (show 0 ≤ c by omega)
    have h2 := Int.ediv_le_self c (show 0 ≤ b - a - 1 by omega)
    generalize (b - a - 1) / c = q at *
    omega
  · omega
def Rg3 (rs : List R) (Φ : Int → Int → Int → Prop) : Prop := ∃ i j c : Int, rs = [.dat (.int i), .dat (.int j), .dat (.int c)] ∧ RgC i j c (Builtin.Range.rangeSize i j c).toNat ∧ Φ i j c
theorem rg3 {i j c : Int} {Φ : Int → Int → Int → Prop} (hi : -1000000 < i ∧ i < 1000000) (hj : -1000000 < j ∧ j < 1000000) (hc : 0 < c ∧ c < 1000000) (k : Φ i j c) : Rg3 [.dat (.int i), .dat (.int j), .dat (.int c)] Φ := ⟨i, j, c, rfl, rgc hi hj hc, k⟩
theorem wi_rng3 {Φ : List D → Store → Prop} (h : WpA K tl ρ S fun rs S1 => Rg3 rs fun i j c => Φ (rng3 i j c) S1) : WpI K (iRng3 tl) ρ S Φ := fun A σ H f Q q =>
  h A σ H f _ fun rs S1 A1 vs H1 ⟨i, j, c, e, l, k⟩ g1 so1 rr => by
    subst e
    cases rr with
    | cons r1 rr =>
      obtain ⟨v, w, rfl, r2, r3⟩ := reps2 rr
      obtain rfl := rep_int r1
      obtain rfl := rep_int r2
      obtain rfl := rep_int r3
      exact ⟨i, j, c, _, rfl, l, q _ S1 A1 _ H1 k g1 so1 it_rngC⟩
/-! list(x), tuple(x), xs + ys, xs * k, as data and as new lists -/
/-- a list: data, or of the store -/
def LsR (S : Store) (r : R) (ds : List D) : Prop := r = .dat (.lst ds) ∨ ∃ k, r = .mu k ∧ S[k]? = some (.ls ds)
theorem ls_dat {ds : List D} : LsR S (.dat (.lst ds)) ds := .inl rfl
theorem ls_mu {k : Nat} {ds : List D} (h : S[k]? = some (.ls ds)) : LsR S (.mu k) ds := .inr ⟨k, rfl, h⟩
theorem LsR.rep {r : R} {ds : List D} {v : V} (h : LsR S r ds) (so : SOk K A S H) (rr : RepR K A S H r v) : ∃ a xs, v = .ref a ∧ H a = some (.lst xs) ∧ RepL K (Lv A S) H ds xs := by
  rcases h with rfl | ⟨k, rfl, hk⟩
  · exact rep_lstH rr
  · exact rep_mu so rr hk
/-- a list or a tuple of any kind -/
def SqR (S : Store) (r : R) (ds : List D) : Prop := LsR S r ds ∨ r = .dat (.flst ds) ∨ r = .dat (.tup ds) ∨ r = .dat (.ftup ds)
theorem SqR.rep {r : R} {ds : List D} {v : V} (h : SqR S r ds) (so : SOk K A S H) (rr : RepR K A S H r v) : ∃ a xs, v = .ref a ∧ (SqL K H a xs ∨ SqT K H a xs) ∧ RepL K (Lv A S) H ds xs := by
  rcases h with h | rfl | rfl | rfl
  · obtain ⟨a, xs, e, hx, l⟩ := h.rep so rr
    exact ⟨a, xs, e, .inl (sq_of hx), l⟩
  · obtain ⟨a, xs, e, sq, l⟩ := rep_flst rr
    exact ⟨a, xs, e, .inl sq, l⟩
  · obtain ⟨a, xs, e, sq, l⟩ := rep_tup rr
    exact ⟨a, xs, e, .inr sq, l⟩
  · obtain ⟨a, xs, e, sq, l⟩ := rep_ftup rr
    exact ⟨a, xs, e, .inr sq, l⟩
theorem sq_t {ds : List D} : SqR S (.dat (.tup ds)) ds := .inr (.inr (.inl rfl))
theorem sq_f {ds : List D} : SqR S (.dat (.ftup ds)) ds := .inr (.inr (.inr rfl))
theorem sq_l {ds : List D} : SqR S (.dat (.lst ds)) ds := .inl (.inl rfl)
theorem sq_fl {ds : List D} : SqR S (.dat (.flst ds)) ds := .inr (.inl rfl)
theorem sq_m {k : Nat} {ds : List D} (h : S[k]? = some (.ls ds)) : SqR S (.mu k) ds := .inl (.inr ⟨k, rfl, h⟩)
abbrev rListOf (K : PySem.W.Frag) : List V → Hp → VK → Prop := fun xs H Q => ∃ p ys, xs = [.ref p] ∧ (SqL K H p ys ∨ SqT K H p ys) ∧ ∀ l, H l = none → Q (.ref l) (upd H l (.lst ys))
theorem c_list {r : R} {ds : List D} (h : SqR S r ds) (k : Φ1 (.dat (.lst ds))) : Cb K (fun xs H Q => ∃ p ys, xs = [.ref p] ∧ (SqL K H p ys ∨ SqT K H p ys) ∧ ∀ l, H l = none → Q (.ref l) (upd H l (.lst ys))) [r] S Φ1 := fun A H vs so rx Q q => by
  obtain ⟨v, rfl, rr⟩ := reps1 rx
  obtain ⟨a, xs, rfl, sq, l⟩ := h.rep so rr
  exact ⟨a, xs, rfl, sq, fun p hp => q _ _ _ k (Ex.new hp) (rep_new (so := so) hp l).2⟩
def SqX (r : R) (S : Store) (Φ : List D → Prop) : Prop := ∃ ds, SqR S r ds ∧ Φ ds
def OneR (rs : List R) (Φ : R → Prop) : Prop := ∃ r, rs = [r] ∧ Φ r
theorem one {r : R} {Φ : R → Prop} (k : Φ r) : OneR [r] Φ := ⟨r, rfl, k⟩
theorem wn_list {Φ : List D → Store → Prop} (h : WpA K tl ρ S fun rs S1 => OneR rs fun r => SqX r S1 fun ds => Φ ds S1) : WpN K (tCB (fun xs H Q => ∃ p ys, xs = [.ref p] ∧ (SqL K H p ys ∨ SqT K H p ys) ∧ ∀ l, H l = none → Q (.ref l) (upd H l (.lst ys))) tl) ρ S Φ := fun A σ H f Q q =>
  h A σ H f _ fun rs S1 A1 vs H1 ⟨r, er, ds, hs, k⟩ g1 so1 rr => by
    subst er
    obtain ⟨v, rfl, r1⟩ := reps1 rr
    obtain ⟨a, xs, rfl, sq, l⟩ := hs.rep so1 r1
    exact ⟨a, xs, rfl, sq, fun p hp => wn_new q g1 so1 hp l k⟩
theorem c_tupF {r : R} {ds : List D} (h : LsR S r ds) (k : Φ1 (.dat (.ftup ds))) : Cb K (rTupF K) [r] S Φ1 := fun A H vs so rx Q q => by
  obtain ⟨v, rfl, rr⟩ := reps1 rx
  obtain ⟨a, xs, rfl, hx, l⟩ := h.rep so rr
  exact ⟨a, xs, rfl, sq_of hx, fun p H2 hp e2 fz => q _ _ _ k e2 (.ftup (so.new hp) fz (l.go (.ex e2)))⟩
theorem RepL.rep_ {ds : List D} {xs : List V} (l : RepL K X H ds xs) : ∀ n : Nat, RepL K X H (List.replicate n ds).flatten (List.replicate n xs).flatten
  | 0 => .nil
  | n + 1 => by
    rw [List.replicate_succ, List.replicate_succ, List.flatten_cons, List.flatten_cons]
    exact l.append (l.rep_ n)
theorem o_cat {r1 r2 : R} {ds es : List D} (h1 : LsR S r1 ds) (h2 : LsR S r2 es) (hl : ds.length + es.length ≤ 100000) (k : Φ1 (.dat (.lst (ds ++ es)))) : Op2 K rCat r1 r2 S Φ1 := fun A H v w so rx ry Q q => by
  obtain ⟨a, xs, rfl, hx, l⟩ := h1.rep so rx
  obtain ⟨b, ys, rfl, hy, l'⟩ := h2.rep so ry
  exact ⟨a, b, xs, ys, rfl, rfl, hx, hy, by rw [← l.length, ← l'.length]; exact sz_of hl, fun p hp => q _ _ _ k (Ex.new hp) (rep_new (so := so) hp (l.append l')).2⟩
def CatX (r1 r2 : R) (S : Store) (Φ : List D → Prop) : Prop := ∃ ds es, LsR S r1 ds ∧ LsR S r2 es ∧ ds.length + es.length ≤ 100000 ∧ Φ (ds ++ es)
theorem wn_cat {Φ : List D → Store → Prop} (h : Wp K ta ρ S fun x S1 => Wp K tb ρ S1 fun y S2 => CatX x y S2 fun ds => Φ ds S2) : WpN K (tOp rCat ta tb) ρ S Φ := fun A σ H f Q q =>
  h A σ H f _ fun x S1 A1 v1 H1 hw g1 so1 r1 => hw A1 σ H1 (f.go g1 so1) _ fun y S2 A2 v2 H2 ⟨ds, es, h1, h2, hl, k⟩ g2 so2 r2 => by
    obtain ⟨a, xs, rfl, hx, l⟩ := h1.rep so2 (r1.go g2)
    obtain ⟨b, ys, rfl, hy, l'⟩ := h2.rep so2 r2
    exact ⟨a, b, xs, ys, rfl, rfl, hx, hy, by rw [← l.length, ← l'.length]; exact sz_of hl, fun p hp => wn_new q (g1.trans g2) so2 hp (l.append l') k⟩
theorem o_rep {r1 : R} {ds : List D} {n : Int} (h1 : LsR S r1 ds) (h0 : -1000000 < n ∧ n < 1000000) (hl : ds.length * n.toNat ≤ 100000) (k : Φ1 (.dat (.lst (List.replicate n.toNat ds).flatten))) : Op2 K rRep r1 (.dat (.int n)) S Φ1 := fun A H v w so rx ry Q q => by
  obtain ⟨a, xs, rfl, hx, l⟩ := h1.rep so rx
  obtain rfl := rep_int ry
  exact ⟨a, n, xs, rfl, rfl, hx, by omega, by omega, by rw [← l.length]; exact sz_of hl, fun p hp => q _ _ _ k (Ex.new hp) (rep_new (so := so) hp (l.rep_ _)).2⟩
def RepX (r1 r2 : R) (S : Store) (Φ : List D → Prop) : Prop := ∃ ds n, LsR S r1 ds ∧ r2 = .dat (.int n) ∧ (-1000000 < n ∧ n < 1000000) ∧ ds.length * n.toNat ≤ 100000 ∧ Φ (List.replicate n.toNat ds).flatten
theorem wn_rep {Φ : List D → Store → Prop} (h : Wp K ta ρ S fun x S1 => Wp K tb ρ S1 fun y S2 => RepX x y S2 fun ds => Φ ds S2) : WpN K (tOp rRep ta tb) ρ S Φ := fun A σ H f Q q =>
  h A σ H f _ fun x S1 A1 v1 H1 hw g1 so1 r1 => hw A1 σ H1 (f.go g1 so1) _ fun y S2 A2 v2 H2 ⟨ds, n, h1, e2, h0, hl, k⟩ g2 so2 r2 => by
    subst e2
    obtain ⟨a, xs, rfl, hx, l⟩ := h1.rep so2 (r1.go g2)
    obtain rfl := rep_int r2
    exact ⟨a, n, xs, rfl, rfl, hx, by omega, by omega, by rw [← l.length]; exact sz_of hl, fun p hp => wn_new q (g1.trans g2) so2 hp (l.rep_ _) k⟩
theorem c_divmod {i j : Int} (h : CDiv i j) (k : Φ1 (.dat (.tup [.int (i / j), .int (i % j)]))) : Cb K (fun xs H Q => ∃ i j, xs = [.int i, .int j] ∧ CDiv i j ∧ ∀ p, H p = none → Q (.ref p) (upd H p (.tup [.int (i / j), .int (i % j)]))) [.dat (.int i), .dat (.int j)] S Φ1 := fun A H vs so rx Q q => by
  obtain ⟨v, w, rfl, r1, r2⟩ := reps2 rx
  obtain rfl := rep_int r1
  obtain rfl := rep_int r2
  exact ⟨i, j, rfl, h, fun p hp => q _ _ _ k (Ex.new hp) (rep_new (so := so) hp (.cons (.int _) (.cons (.int _) .nil))).1⟩
/-! tuples -/
def TpR (r : R) (ds : List D) : Prop := r = .dat (.tup ds) ∨ r = .dat (.ftup ds)
theorem tp_t {ds : List D} : TpR (.dat (.tup ds)) ds := .inl rfl
theorem tp_f {ds : List D} : TpR (.dat (.ftup ds)) ds := .inr rfl
theorem TpR.rep {r : R} {ds : List D} {v : V} (h : TpR r ds) (rr : RepR K A S H r v) : ∃ a xs, v = .ref a ∧ SqT K H a xs ∧ RepL K (Lv A S) H ds xs := by
  rcases h with rfl | rfl
  · exact rep_tup rr
  · exact rep_ftup rr
/-- as a tuple told plainly -/
theorem rep_plain {d : D} {ds : List D} {v : V} (h : d = .tup ds ∨ d = .ftup ds) (r : Rep K X H d v) : Rep K X H (.tup ds) v := by
  rcases h with rfl | rfl
  · exact r
  · cases r with
    | ftup n f l => obtain ⟨o, e, _⟩ := f; exact .tup n (.inr ⟨o, e⟩) l
theorem TpR.plain {r : R} {ds : List D} {v : V} (h : TpR r ds) (rr : RepR K A S H r v) : RepR K A S H (.dat (.tup ds)) v := by
  rcases h with rfl | rfl
  · exact rr
  · exact rep_plain (.inr rfl) rr
theorem o_catA {r1 r2 : R} {ds es : List D} (h1 : TpR r1 ds) (h2 : TpR r2 es) (hl : ds.length + es.length ≤ 100000) (k : Φ1 (.dat (.tup (ds ++ es)))) : Op2 K (rCatA K) r1 r2 S Φ1 := fun A H v w so rx ry Q q => by
  obtain ⟨a, xs, rfl, sx, l⟩ := h1.rep rx
  obtain ⟨b, ys, rfl, sy, l'⟩ := h2.rep ry
  refine ⟨a, b, xs, ys, rfl, rfl, sx, sy, by rw [← l.length, ← l'.length]; exact sz_of hl, fun e => ?_, fun _ e => ?_, fun _ _ p hp => q _ _ _ k (Ex.new hp) (rep_new (so := so) hp (l.append l')).1⟩
  · subst e
    cases l
    exact q _ _ _ k (Ex.refl _) (h2.plain ry)
  · subst e
    cases l'
    rw [List.append_nil] at k
    exact q _ _ _ k (Ex.refl _) (h1.plain rx)
def cutD (ds : List D) (lo hi : Option Int) : List D := (ds.drop (HT.sIx ds.length 0 lo)).take (HT.sIx ds.length ds.length hi - HT.sIx ds.length 0 lo)
theorem RepL.cut {ds : List D} {xs : List V} (l : RepL K X H ds xs) (lo hi : Option Int) : RepL K X H (cutD ds lo hi) (cutV xs lo hi) := by
  unfold cutD cutV
  rw [← l.length]
  exact (l.drop _).take _
theorem s_A {r : R} {ds : List D} {lo hi : Option Int} (h : TpR r ds) (k : Φ1 (.dat (.tup (cutD ds lo hi)))) : Sl K (rSlA K) r lo hi S Φ1 := fun A H v so rx Q q => by
  obtain ⟨a, xs, rfl, sx, l⟩ := h.rep rx
  refine ⟨a, xs, rfl, sx, fun e => ?_, fun _ p hp => q _ _ _ k (Ex.new hp) (rep_new (so := so) hp (l.cut lo hi)).1⟩
  have ec : cutD ds lo hi = ds := by
    unfold cutD
    rw [l.length, e.1, e.2, List.drop_zero, Nat.sub_zero, ← l.length, List.take_length]
  rw [ec] at k
  exact q _ _ _ k (Ex.refl _) (h.plain rx)
theorem s_L {r : R} {ds : List D} {lo hi : Option Int} (h : LsR S r ds ∨ r = .dat (.flst ds)) (k : Φ1 (.dat (.lst (cutD ds lo hi)))) : Sl K (rSlL K) r lo hi S Φ1 := fun A H v so rx Q q => by
  obtain ⟨a, xs, rfl, sx, l⟩ : ∃ a xs, v = .ref a ∧ SqL K H a xs ∧ RepL K (Lv A S) H ds xs := by
    rcases h with h | rfl
    · obtain ⟨a, xs, e, hx, l⟩ := h.rep so rx
      exact ⟨a, xs, e, sq_of hx, l⟩
    · exact rep_flst rx
  exact ⟨a, xs, rfl, sx, fun p hp => q _ _ _ k (Ex.new hp) (rep_new (so := so) hp (l.cut lo hi)).2⟩
theorem o_repT {r1 : R} {ds : List D} {n : Int} (h1 : TpR r1 ds) (h0 : ds ≠ []) (hn : 2 ≤ n ∧ n ≤ 1000) (hl : ds.length ≤ 1000) (k : Φ1 (.dat (.tup (List.replicate n.toNat ds).flatten))) : Op2 K (rRepT K) r1 (.dat (.int n)) S Φ1 := fun A H v w so rx ry Q q => by
  obtain ⟨a, xs, rfl, sx, l⟩ := h1.rep rx
  obtain rfl := rep_int ry
  exact ⟨a, n, xs, rfl, rfl, sx, fun e => h0 (by subst e; cases l; rfl), hn.1, hn.2, by rw [← l.length]; exact hl, fun p hp => q _ _ _ k (Ex.new hp) (rep_new (so := so) hp (l.rep_ _)).1⟩
end
end Dl
/-! == of data, in. -/
namespace Dl
theorem nt_f {b : Bool} (h : (!b) = false) : b = true := by cases b <;> first | rfl | cases h
theorem nt_t {b : Bool} (h : (!b) = true) : b = false := by cases b <;> first | rfl | cases h
open PySem PySem.Spec PyProof.Rows L2 _root_.Evl
mutual
def pyD : D → PyData
  | .bl b => .bool b
  | .int i => .int i
  | .str x => .str x
  | .tup ds => .tuple (pyL ds)
  | .ftup ds => .tuple (pyL ds)
  | .lst ds => .list (pyL ds)
  | .flst ds => .list (pyL ds)
  | .non => .none
  | .ty _ => .none
  | .glo _ => .none
  | .ins _ _ => .none
  | .dic _ => .none
def pyL : List D → List PyData
  | [] => []
  | d :: ds => pyD d :: pyL ds
end
mutual
/-- what == of data serves -/
def eqOk : D → Bool
  | .tup ds => eqOkL ds
  | .ftup ds => eqOkL ds
  | .lst ds => eqOkL ds
  | .flst ds => eqOkL ds
  | .non => true
  | .bl _ => true
  | .int _ => true
  | .str _ => true
  | .ty _ => false
  | .glo _ => false
  | .ins _ _ => false
  | .dic _ => false
def eqOkL : List D → Bool
  | [] => true
  | d :: ds => eqOk d && eqOkL ds
end
section
variable {K : PySem.W.Frag} {A A' A1 A2 : List Addr} {S S' S1 S2 : Store} {H H' H1 H2 : Hp} {X : Addr → Prop} {Φ : R → Prop}
mutual
theorem rep_dp : ∀ {d : D} {v : V}, Rep K X H d v → eqOk d = true → Dp K H v (pyD d)
  | _, _, .non, _ => by rw [pyD]; exact .non
  | _, _, .bl b, _ => by rw [pyD]; exact .bl b
  | _, _, .int i, _ => by rw [pyD]; exact .int i
  | _, _, .str x, _ => by rw [pyD]; exact .str x
  | _, _, .ty n, h => by rw [eqOk] at h; cases h
  | _, _, .glo x, h => by rw [eqOk] at h; cases h
  | _, _, .tup n r l, h => by rw [pyD]; exact .tup (.inl r) (repl_dp l (by rw [eqOk] at h; exact h))
  | _, _, .ftup n r l, h => by rw [pyD]; exact .tup (FzT.sq r) (repl_dp l (by rw [eqOk] at h; exact h))
  | _, _, .lst n r l, h => by rw [pyD]; exact .lst (sq_of r) (repl_dp l (by rw [eqOk] at h; exact h))
  | _, _, .flst n r l, h => by rw [pyD]; exact .lst (.inl r) (repl_dp l (by rw [eqOk] at h; exact h))
  | _, _, .ktup r l, h => by rw [pyD]; exact .tup (r H) (repl_dp l (by rw [eqOk] at h; exact h))
  | _, _, .klst r l, h => by rw [pyD]; exact .lst (r H) (repl_dp l (by rw [eqOk] at h; exact h))
  | _, _, .ins n r f, h => by rw [eqOk] at h; cases h
  | _, _, .dic n r f, h => by rw [eqOk] at h; cases h
theorem repl_dp : ∀ {ds : List D} {vs : List V}, RepL K X H ds vs → eqOkL ds = true → DpAll K H vs (pyL ds)
  | _, _, .nil, _ => by rw [pyL]; exact .nil
  | _, _, .cons h t, e => by
    rw [eqOkL, Bool.and_eq_true] at e
    rw [pyL]
    exact .cons (rep_dp h e.1) (repl_dp t e.2)
end
theorem o_eqD {d e : D} (h1 : eqOk d = true) (h2 : eqOk e = true) (s1 : SeqAt.shaped (pyD d) = true) (s2 : SeqAt.shaped (pyD e) = true) (k : Φ (.dat (.bl (PyData.eqv (pyD d) (pyD e))))) : Op2 K (rEqD K) (.dat d) (.dat e) S Φ := op2_val (z := .dat (.bl (PyData.eqv (pyD d) (pyD e)))) (fun A H v w so rx ry =>
  ⟨_, Rep.bl _, fun Q q => ⟨_, _, rep_dp rx h1, rep_dp ry h2, s1, s2, q⟩⟩) k
theorem o_neD {d e : D} (h1 : eqOk d = true) (h2 : eqOk e = true) (s1 : SeqAt.shaped (pyD d) = true) (s2 : SeqAt.shaped (pyD e) = true) (k : Φ (.dat (.bl (!PyData.eqv (pyD d) (pyD e))))) : Op2 K (rNeD K) (.dat d) (.dat e) S Φ := op2_val (z := .dat (.bl (!PyData.eqv (pyD d) (pyD e)))) (fun A H v w so rx ry =>
  ⟨_, Rep.bl _, fun Q q => ⟨_, _, rep_dp rx h1, rep_dp ry h2, s1, s2, q⟩⟩) k
theorem eqOk_ints : ∀ ns : List Int, eqOkL (ns.map .int) = true
  | [] => by rw [List.map_nil, eqOkL]
  | n :: ns => by rw [List.map_cons, eqOkL, eqOk, eqOk_ints ns]; rfl
theorem pyL_ints : ∀ ns : List Int, pyL (ns.map .int) = ns.map .int
  | [] => by rw [List.map_nil, pyL]; rfl
  | n :: ns => by rw [List.map_cons, pyL, pyD, pyL_ints ns]; rfl
theorem lay_ints : ∀ ns : List Int, PyData.canLayAll0 (ns.map .int) = true
  | [] => by rw [List.map_nil, PyData.canLayAll0]
  | n :: ns => by rw [List.map_cons, PyData.canLayAll0, PyData.canLay0, lay_ints ns]; rfl
theorem depth_ints : ∀ ns : List Int, PyData.depthAll (ns.map .int) = 0
  | [] => by rw [List.map_nil, PyData.depthAll]
  | n :: ns => by rw [List.map_cons, PyData.depthAll, PyData.depth, depth_ints ns]; rfl
theorem eqv_ints : ∀ ns ms : List Int, PyData.eqvAll (ns.map .int) (ms.map .int) = decide (ns = ms)
  | [], [] => by rw [List.map_nil, PyData.eqvAll]; rfl
  | [], m :: ms => by rw [List.map_nil, List.map_cons, PyData.eqvAll]; rfl
  | n :: ns, [] => by rw [List.map_nil, List.map_cons, PyData.eqvAll]; rfl
  | n :: ns, m :: ms => by
    rw [List.map_cons, List.map_cons, PyData.eqvAll, PyData.eqv, eqv_ints ns ms]
    by_cases h : n = m
    · subst h
      simp
    · have : (n == m) = false := beq_eq_false_iff_ne.mpr h
      rw [this]
      simp [h]
theorem shp_tI (ns : List Int) : SeqAt.shaped (.tuple (ns.map .int)) = true := by
  unfold SeqAt.shaped
  rw [PyData.canLay0, lay_ints, PyData.depth, depth_ints]
  rfl
theorem shp_lI (ns : List Int) : SeqAt.shaped (.list (ns.map .int)) = true := by
  unfold SeqAt.shaped
  rw [PyData.canLay0, lay_ints, PyData.depth, depth_ints]
  rfl
/-- lists of ints -/
theorem o_eqL {r1 r2 : R} {ns ms : List Int} (h1 : LsR S r1 (ns.map .int)) (h2 : LsR S r2 (ms.map .int)) (k : Φ (.dat (.bl (decide (ns = ms))))) : Op2 K (rEqD K) r1 r2 S Φ := op2_val (fun A H v w so rx ry => by
  obtain ⟨a, xs, rfl, hx, l⟩ := h1.rep so rx
  obtain ⟨b, ys, rfl, hy, l'⟩ := h2.rep so ry
  have d1 := repl_dp l (eqOk_ints ns)
  have d2 := repl_dp l' (eqOk_ints ms)
  rw [pyL_ints] at d1 d2
  refine ⟨_, Rep.bl _, fun Q q => ⟨_, _, .lst (sq_of hx) d1, .lst (sq_of hy) d2, shp_lI _, shp_lI _, ?_⟩⟩
  rw [PyData.eqv, eqv_ints]
  exact q) k
theorem o_neL {r1 r2 : R} {ns ms : List Int} (h1 : LsR S r1 (ns.map .int)) (h2 : LsR S r2 (ms.map .int)) (k : Φ (.dat (.bl (!decide (ns = ms))))) : Op2 K (rNeD K) r1 r2 S Φ := op2_val (fun A H v w so rx ry => by
  obtain ⟨a, xs, rfl, hx, l⟩ := h1.rep so rx
  obtain ⟨b, ys, rfl, hy, l'⟩ := h2.rep so ry
  have d1 := repl_dp l (eqOk_ints ns)
  have d2 := repl_dp l' (eqOk_ints ms)
  rw [pyL_ints] at d1 d2
  refine ⟨_, Rep.bl _, fun Q q => ⟨_, _, .lst (sq_of hx) d1, .lst (sq_of hy) d2, shp_lI _, shp_lI _, ?_⟩⟩
  rw [PyData.eqv, eqv_ints]
  exact q) k
/-- tuples of ints -/
theorem o_eqT {r1 r2 : R} {ns ms : List Int} (h1 : TpR r1 (ns.map .int)) (h2 : TpR r2 (ms.map .int)) (k : Φ (.dat (.bl (decide (ns = ms))))) : Op2 K (rEqD K) r1 r2 S Φ := op2_val (fun A H v w so rx ry => by
  obtain ⟨a, xs, rfl, hx, l⟩ := h1.rep rx
  obtain ⟨b, ys, rfl, hy, l'⟩ := h2.rep ry
  have d1 := repl_dp l (eqOk_ints ns)
  have d2 := repl_dp l' (eqOk_ints ms)
  rw [pyL_ints] at d1 d2
  refine ⟨_, Rep.bl _, fun Q q => ⟨_, _, .tup hx d1, .tup hy d2, shp_tI _, shp_tI _, ?_⟩⟩
  rw [PyData.eqv, eqv_ints]
  exact q) k
theorem o_neT {r1 r2 : R} {ns ms : List Int} (h1 : TpR r1 (ns.map .int)) (h2 : TpR r2 (ms.map .int)) (k : Φ (.dat (.bl (!decide (ns = ms))))) : Op2 K (rNeD K) r1 r2 S Φ := op2_val (fun A H v w so rx ry => by
  obtain ⟨a, xs, rfl, hx, l⟩ := h1.rep rx
  obtain ⟨b, ys, rfl, hy, l'⟩ := h2.rep ry
  have d1 := repl_dp l (eqOk_ints ns)
  have d2 := repl_dp l' (eqOk_ints ms)
  rw [pyL_ints] at d1 d2
  refine ⟨_, Rep.bl _, fun Q q => ⟨_, _, .tup hx d1, .tup hy d2, shp_tI _, shp_tI _, ?_⟩⟩
  rw [PyData.eqv, eqv_ints]
  exact q) k
/-- an int in ints -/
theorem inV_ints (i : Int) (ns : List Int) : inV (.int i) (ns.map V.int) = ns.contains i := by
  induction ns with
  | nil => rfl
  | cons n ns ih =>
    rw [List.map_cons, List.contains_cons]
    unfold inV at ih ⊢
    rw [List.any_cons, ih]
    show ((n == i) || _) = ((i == n) || _)
    rw [BEq.comm]
theorem flat_ints (ns : List Int) : (ns.map V.int).all flatV = true := by
  induction ns with
  | nil => rfl
  | cons n ns ih => rw [List.map_cons, List.all_cons, ih]; rfl
theorem o_inI {neg : Bool} {i : Int} {r : R} {ns : List Int} (h : SqR S r (ns.map .int)) (k : Φ (.dat (.bl (if neg then !ns.contains i else ns.contains i)))) : Op2 K (rIn K neg) (.dat (.int i)) r S Φ := op2_val (fun A H v w so rx ry => by
  obtain rfl := rep_int rx
  obtain ⟨a, xs, rfl, sq, l⟩ := h.rep so ry
  rw [repl_int l] at sq
  exact ⟨_, Rep.bl _, fun Q q => ⟨a, _, rfl, sq, rfl, flat_ints ns, by rw [inV_ints]; exact q⟩⟩) k
theorem o_inK {neg : Bool} {i : Int} {x : Str} {ns : List Int} (h : ∀ H : Hp, SqT K H (He.ga K x) (ns.map V.int)) (k : Φ (.dat (.bl (if neg then !ns.contains i else ns.contains i)))) : Op2 K (rIn K neg) (.dat (.int i)) (.dat (.glo x)) S Φ := op2_val (fun A H v w so rx ry => by
  obtain rfl := rep_int rx
  cases ry
  exact ⟨_, Rep.bl _, fun Q q => ⟨_, _, rfl, .inr (h H), rfl, flat_ints ns, by rw [inV_ints]; exact q⟩⟩) k
end
end Dl
/-! Small words of the layer. -/
namespace Dl
open PySem PySem.Spec PyProof.Rows L2 _root_.Evl
section
variable {K : PySem.W.Frag} {A : List Addr} {S : Store} {H : Hp} {ρ : List R} {Φ : R → Prop} {Φ2 : PR}
theorem c_lenQ {r : R} {ds : List D} (h : SqR S r ds) (k : Φ (.dat (.int (ds.length : Nat)))) : Cb K (fun xs H Q => ∃ p ys, xs = [.ref p] ∧ (SqL K H p ys ∨ SqT K H p ys) ∧ Q (.int (ys.length : Nat)) H) [r] S Φ := cb_val (fun A H vs so rx => by
  obtain ⟨v, rfl, rr⟩ := reps1 rx
  obtain ⟨a, xs, rfl, sq, l⟩ := h.rep so rr
  exact ⟨.int (ds.length : Nat), .int _, fun Q q => ⟨a, xs, rfl, sq, by rw [← l.length]; exact q⟩⟩) k
theorem wp_varR {Φ : R → Store → Prop} {i : Nat} {r : R} (h : ρ[i]? = some r) (n : r ≠ .no) (k : Φ r S) : Wp K (tVar i) ρ S Φ := fun A σ H f Q q => by
  obtain ⟨v, e, rr⟩ := f.var h n
  exact ⟨v, e, q _ S A v H k .refl f.st rr⟩
theorem SqR.ne {r : R} {ds : List D} (h : SqR S r ds) : r ≠ .no := by
  rcases h with (rfl | ⟨k, rfl, _⟩) | rfl | rfl | rfl <;> nofun
theorem at_ints {L : List Int} {j : Int} (h0 : 0 ≤ j) (h1 : j < L.length) : ∃ v ∈ L, atI (L.map D.int) j = some (.int v) := by
  obtain ⟨n, rfl⟩ := Int.eq_ofNat_of_zero_le h0
  have hn : n < L.length := by omega
  exact ⟨L[n], List.getElem_mem hn, at_nat (by rw [List.getElem?_map, List.getElem?_eq_getElem hn]; rfl)⟩
theorem st_last {m : MO} : (S ++ [m])[S.length]? = some m := last_get rfl
theorem st_set {m m' : MO} : (S ++ [m]).set S.length m' = S ++ [m'] := by
  rw [List.set_append_right _ _ (Nat.le_refl _), Nat.sub_self]
  rfl
theorem st_setN {m m' : MO} {n : Nat} (h : S.length = n) : (S ++ [m]).set n m' = S ++ [m'] := by
  subst h
  exact st_set
theorem rr_cut {Φ : D → Store → Prop} {d : D} {n : Nat} {T : Store} (h : S.length = n) (k : Φ d S) : retR Φ n (.dat d) (S ++ T) := by
  subst h
  show Φ d ((S ++ T).take S.length)
  rw [List.take_left]
  exact k
theorem c_tupL {r : R} {ds : List D} (h : LsR S r ds) (k : Φ (.dat (.tup ds))) : Cb K (fun xs H Q => ∃ p ys, xs = [.ref p] ∧ ((SqL K H p ys ∧ ∀ l, H l = none → Q (.ref l) (upd H l (.tup ys))) ∨ (SqT K H p ys ∧ Q (.ref p) H))) [r] S Φ := fun A H vs so rx Q q => by
  obtain ⟨v, rfl, rr⟩ := reps1 rx
  obtain ⟨a, xs, rfl, hx, l⟩ := h.rep so rr
  exact ⟨a, xs, rfl, .inl ⟨sq_of hx, fun p hp => q _ _ _ k (Ex.new hp) (rep_new (so := so) hp l).1⟩⟩
theorem wg_tp3 {n : Nat} {gs : TGs} {d a b c : D} (hd : d = .tup [a, b, c] ∨ d = .ftup [a, b, c]) (hn : 3 = n) (h : WpGs K gs [.dat a, .dat b, .dat c] ρ S Φ2) : WpG K (gTup K n gs) (.dat d) ρ S Φ2 := by
  rcases hd with rfl | rfl
  · exact wg_tup3 hn h
  · exact wg_ftup3 hn h
theorem wg_tp2 {n : Nat} {gs : TGs} {d a b : D} (hd : d = .tup [a, b] ∨ d = .ftup [a, b]) (hn : 2 = n) (h : WpGs K gs [.dat a, .dat b] ρ S Φ2) : WpG K (gTup K n gs) (.dat d) ρ S Φ2 := by
  rcases hd with rfl | rfl
  · exact wg_tup2 hn h
  · exact wg_ftup2 hn h
/-- xs[i] op= e at the last thing of the store -/
theorem getM_last {ds : List D} {j : Nat} {d : D} {Φ : Nat → Nat → D → Prop} (h : ds[j]? = some d) (k : Φ S.length j d) : GetM (.mu S.length) (.dat (.int (j : Nat))) (S ++ [.ls ds]) Φ := ⟨S.length, j, ds, d, rfl, rfl, st_last, h, k⟩
theorem putM_last {ds : List D} {j : Nat} {d : D} {Φ : Store → Prop} (h : j < ds.length) (k : Φ (S ++ [.ls (ds.set j d)])) : PutM S.length j (.dat d) (S ++ [.ls ds]) Φ := ⟨ds, d, rfl, st_last, h, by rw [st_set]; exact k⟩
theorem app_last {ds : List D} {Φ : Nat → Prop} (k : Φ S.length) : App (.mu S.length) (S ++ [.ls ds]) Φ := ⟨S.length, ds, rfl, st_last, k⟩
theorem appTo_last {ds : List D} {d : D} {Φ : Store → Prop} (h : ds.length < 100000) (k : Φ (S ++ [.ls (ds ++ [d])])) : AppTo S.length (.dat d) (S ++ [.ls ds]) Φ := ⟨d, ds, rfl, st_last, h, by rw [st_set]; exact k⟩
end
end Dl
/-! t[::-1], t a tuple. -/
namespace L2
open PySem PySem.Spec PyProof.Rows _root_.Evl
section
variable {prog : Program} {w : World} {A : Around} {E : Value → Shared → Prop} {s : Shared}
theorem sliceApplied_rev {sl : Addr} {vl vu vs : Value} {n : Nat} {Q : Int × Int × Nat → Shared → Prop} (hs : s.heap.IsSliceOf sl vl vu vs) (pl : IsPart vl none) (pu : IsPart vu none) (ps : IsPart vs (some (-1)))
    (h : Q (((n : Int) - 1), -1, n) s) : wpAny (model prog w) A (Builtin.Slice.sliceApplied (.ref sl) (pure (n : Int))) Q E s := by
  obtain ⟨os, hos, hcs, hds⟩ := id hs
  unfold Builtin.Slice.sliceApplied Builtin.Slice.sliceFields
  refine wpAny_bind (wpAny_bind (wpAny_field hos hds (x := vl) rfl (wpAny_bind (wpAny_field hos hds (x := vu) rfl (wpAny_bind (wpAny_field hos hds (x := vs) rfl (wpAny_pure ?_)))))))
  refine wpAny_bind (HT.slicePart_ ps ?_)
  show wpAny _ _ (if ((-1 : Int) == 0) = true then _ else _) _ _ s
  rw [if_neg (by decide)]
  refine wpAny_bind (HT.slicePart_ pl (wpAny_bind (HT.slicePart_ pu (wpAny_bind (wpAny_pure ?_)))))
  show wpAny _ _ (match Builtin.Slice.sliceAdjust none none (-1) (n : Int) with | (lo, hi) => pure (lo, (-1 : Int), Builtin.Slice.slicePlaces lo hi (-1))) _ _ s
  have e : Builtin.Slice.sliceAdjust none none (-1) (n : Int) = ((n : Int) - 1, -1) := by
    unfold Builtin.Slice.sliceAdjust
    simp
  have e2 : Builtin.Slice.slicePlaces ((n : Int) - 1) (-1) (-1) = n := by
    unfold Builtin.Slice.slicePlaces
    simp
    omega
  rw [e]
  show wpAny _ _ (pure ((n : Int) - 1, (-1 : Int), Builtin.Slice.slicePlaces ((n : Int) - 1) (-1) (-1))) _ _ s
  rw [e2]
  exact wpAny_pure h
theorem fm_map {α β : Type} {f : α → Option β} {g : α → β} : ∀ l : List α, (∀ a ∈ l, f a = some (g a)) → l.filterMap f = l.map g
  | [], _ => rfl
  | a :: l, h => by
    rw [List.filterMap_cons, h a List.mem_cons_self, List.map_cons, fm_map l fun b hb => h b (List.mem_cons_of_mem _ hb)]
theorem pick_rev (xs : Array Value) : ((List.range xs.size).filterMap fun (m : Nat) => xs[(((xs.size : Int) - 1) + (m : Int) * -1).toNat]?).toArray = xs.toList.reverse.toArray := by
  congr 1
  rw [fm_map (g := fun m => (xs.toList.reverse[m]?).getD .none) _ fun m hm => ?_]
  · apply List.ext_getElem
    · simp
    · intro i h1 h2
      rw [List.getElem_map, List.getElem_range, List.getElem?_eq_getElem h2]
      rfl
  · have hm := List.mem_range.mp hm
    have e : (((xs.size : Int) - 1) + (m : Int) * -1).toNat = xs.size - 1 - m := by omega
    have hr : m < xs.toList.reverse.length := by rw [List.length_reverse, Array.length_toList]; exact hm
    rw [e, Array.getElem?_eq_getElem (by omega), List.getElem?_eq_getElem hr, List.getElem_reverse]
    simp
theorem getItem_tuple_rev {t sl : Addr} {items : Array Value} {vl vu vs : Value} {Q : Value → Shared → Prop} (ht : IsTup s.heap t items) (hs : s.heap.IsSliceOf sl vl vu vs) (pl : IsPart vl none) (pu : IsPart vu none) (ps : IsPart vs (some (-1)))
    (h : Q (.ref s.heap.objs.size) { s with heap := s.heap.push { cls := .type "tuple", data := .seq items.toList.reverse.toArray } })
    (hsz : items.size ≤ sizeLine) : wpAny (model prog w) A (getItem (.ref t) (.ref sl)) Q E s := by
  have htake : sizeOk (.seq items.toList.reverse.toArray) := by
    show items.toList.reverse.toArray.size ≤ sizeLine
    rw [List.size_toArray, List.length_reverse, Array.length_toList]
    exact hsz
  obtain ⟨os, hos, hcs, hds⟩ := id hs
  have hTs : s.TypeIs (.ref sl) "slice" := ⟨os, hos, hcs⟩
  unfold getItem
  try with_reducible refine wpAny_holding ?_
  first | refine wpAny_bind (wpAny_pure ?_) | skip
  refine wpAny_bind (wpAny_sequenceKey ht.typeIs (by decide) ?_)
  refine wpAny_bind (wpAny_callSpecial?_slot (name := Str.ofString "__getitem__") ht.typeIs PyProof.Rows.slot_tuple_getitem
    (wpAny_call_entry PyProof.Rows.slot_tuple_getitem ht.typeIs entry_tuple_getitem ?_ (args_tuple_getitem _ _)))
  show wpAny _ _ (Builtin.Tuple.tupleItemsOf (.ref t) >>= _) _ _ s
  refine wpAny_bind (tupleItemsOf_ ht ?_)
  refine wpAny_bind (wpAny_typeOf hTs ?_)
  rw [if_pos (by decide)]
  refine wpAny_bind (sliceApplied_rev hs pl pu ps ?_)
  have hno : ¬ ((((items.size : Int) - 1) == 0 && (-1 : Int) == 1 && items.size == items.size) = true) := by
    intro q
    rw [Bool.and_eq_true, Bool.and_eq_true] at q
    exact absurd q.1.2 (by decide)
  show wpAny _ _ (if ((((items.size : Int) - 1) == 0 && (-1 : Int) == 1 && items.size == items.size) = true) then _ else _) _ _ s
  rw [if_neg hno, pick_rev]
  first
    | exact wpAny_bind (m := Builtin.Tuple.tupleExact _) (wpAny_newObj_type (wpAny_pure ⟨_, rfl, wpAny_pure h⟩) htake)
    | exact wpAny_bind (m := Builtin.Tuple.tupleExact _) (wpAny_newObj_type (wpAny_bind (wpAny_pure (wpAny_pure ⟨_, rfl, wpAny_pure h⟩))) htake)
end
section
variable {X : Cx}
def tRevT (K : PySem.W.Frag) (te : TE) : TE := fun σ H Q => te σ H fun x H1 => ∃ a xs, x = .ref a ∧ SqT K H1 a xs ∧ ∀ p, H1 p = none → Q (.ref p) (upd H1 p (.tup xs.reverse))
theorem pe_revT {e : Expr} {te : TE} {k : Nat} {p1 p2 p3 pos : Pos} (he : PE X e te) : PE X (.Subscript e (.Slice none none (some (.UnaryOp .USub (.Constant (.int 1) k p1) p2)) p3) pos) (tRevT X.K te) := by
  refine ⟨fun pins s σ H Q I h => ?_⟩
  refine Subscript_ (thn (he.run pins s σ H _ I h) fun v s1 ⟨x, H1, I1, r1, q1⟩ => ?_)
  obtain ⟨a, xs, ex, hx, q⟩ := q1
  subst ex
  cases r1
  have hst : PO X (some (.UnaryOp .USub (.Constant (.int 1) k p1) p2)) (tPart (tUn (rU fun i => .int (-i)) (tC (.int 1)))) := po_some (pe_un un_neg pe_int)
  refine wpAny_Slice (thn (po_none.run pins s1 σ H1 (fun o H2 => o = none ∧ H2 = H1) I1 ⟨rfl, rfl⟩) fun vl s2 ⟨l, H2, I2, pl, el, e2⟩ => ?_)
  subst el e2
  refine thn (po_none.run pins s2 σ H2 (fun o H3 => o = none ∧ H3 = H2) I2 ⟨rfl, rfl⟩) fun vu s3 ⟨u, H3, I3, pu, eu, e3⟩ => ?_
  subst eu e3
  refine thn (hst.run pins s3 σ H3 (fun o H4 => o = some (-1) ∧ H4 = H3) I3 ⟨1, rfl, -1, rfl, rfl, rfl⟩) fun vs s4 ⟨o, H4, I4, ps, eo, e4⟩ => ?_
  subst eo e4
  have I5 : Inv X pins σ H4 { s4 with heap := s4.heap.push { cls := .type "slice", data := .fields #[vl, vu, vs] } } := I4.kept (t' := s4.toks) fun b ob q => Heap.get?_push_of_some _ q
  obtain ⟨its, r, ht, hz⟩ := I5.tuple hx
  have hlen := r.length
  show wpAny (model X.prog X.w) X.A (subscriptTail e (.Slice none none (some (.UnaryOp .USub (.Constant (.int 1) k p1) p2)) p3) (.ref a) (.ref s4.heap.objs.size)) (EP X pins σ Q) X.xe { s4 with heap := s4.heap.push { cls := .type "slice", data := .fields #[vl, vu, vs] } }
  refine tail_any (ops := [.ref a, .ref s4.heap.objs.size]) ht.typeIs (PyProof.Rows.slot_tuple_getitem.lookup) ?_ (by with_unfolding_all rfl)
  refine getItem_tuple_rev ht (Heap.IsSliceOf.new _ vl vu vs) pl pu ps ?_ (by rw [List.size_toArray]; omega)
  refine ⟨.ref _, _, I5.laid (t' := s4.toks) (o := .tup xs.reverse) (fun b ob q => Heap.get?_push_of_some _ q) (Nat.le_refl _) ?_, rfl, q _ (I5.hok.fresh (Nat.le_refl _))⟩
  exact ⟨by rw [List.length_reverse]; exact hz, _, r.reverse, IsTup.new _ _⟩
end
end L2
namespace Dl
open PySem PySem.Spec PyProof.Rows L2 _root_.Evl
section
variable {K : PySem.W.Frag} {S : Store} {ρ : List R} {Φ : R → Store → Prop} {te : TE}
def RevX (r : R) (Φ : R → Prop) : Prop := ∃ ds, TpR r ds ∧ Φ (.dat (.tup ds.reverse))
theorem rev_t {ds : List D} {Φ : R → Prop} (k : Φ (.dat (.tup ds.reverse))) : RevX (.dat (.tup ds)) Φ := ⟨ds, tp_t, k⟩
theorem wp_revT (h : Wp K te ρ S fun r S1 => RevX r fun z => Φ z S1) : Wp K (tRevT K te) ρ S Φ := fun A σ H f Q q =>
  h A σ H f _ fun r S1 A1 v H1 ⟨ds, ht, k⟩ g1 so1 rr => by
    obtain ⟨a, xs, rfl, sq, l⟩ := ht.rep rr
    exact ⟨a, xs, rfl, sq, fun p hp => q _ S1 A1 _ _ k (g1.trans (.ex (Ex.new hp))) (so1.ex (Ex.new hp)) (rep_new (so := so1) hp l.reverse).1⟩
/-- {} -/
theorem wp_dic (k : Φ (.dat (.dic [])) S) : Wp K tDNewK ρ S Φ := fun A σ H f Q q p hp => q _ S A _ _ k (.ex (Ex.new hp)) (f.st.ex (Ex.new hp)) (.dic (f.st.new hp) upd_same .nil)
/-- a list of the store becomes data: from here on it stays -/
theorem ws_frz {t : TS} {Nx Bk Ct : PR} {Rt : R → Store → Prop} (i : Nat) {k : Nat} {ds : List D} (hi : ρ[i]? = some (.mu k)) (hk : S[k]? = some (.ls ds)) (h : WpS K t (ρ.set i (.dat (.lst ds))) (S.set k .dead) Nx Rt Bk Ct) : WpS K t ρ S Nx Rt Bk Ct := fun A σ H f De e => by
  obtain ⟨so2, g2⟩ := f.st.freeze hk
  obtain ⟨v, ev, rv⟩ := f.var hi nofun
  obtain ⟨a, ha, rfl⟩ := rv
  obtain ⟨xs, hx, l⟩ := f.st.ok k a _ ha hk
  have lk : k < S.length := (List.getElem?_eq_some_iff.mp hk).1
  have na : ¬ Lv A (S.set k .dead) a := fun ⟨j, m, hj, hm, nm⟩ => by
    have ej := nd_inj f.st.nd ha hj
    subst ej
    rw [List.getElem?_set_self lk] at hm
    cases hm
    exact nm rfl
  have en := (f.en.go g2).set i (r := .dat (.lst ds)) (v := .ref a) (.lst na hx (l.go g2.gw))
  have es : σ.set i (some (.ref a)) = σ := by
    apply List.ext_getElem?
    intro j
    by_cases hj : i = j
    · subst hj
      rw [List.getElem?_set_self (List.getElem?_eq_some_iff.mp ev).1, ev]
    · rw [List.getElem?_set_ne hj]
  rw [es] at en
  exact h A σ H ⟨so2, en⟩ De (e.go g2)
end
end Dl
/-! t * k, k from 0 on. -/
namespace L2
open PySem PySem.Spec PyProof.Rows _root_.Evl
theorem tuple_mul1 (l : Addr) (items : Array Value) (n : Nat) (dd : Option Addr) (sl : Array (Option Value)) (x : Int) (u : Tok) (c0 : (decide (x < -(2 ^ 63)) || decide (x ≥ 2 ^ 63)) = false) (c1 : (items.isEmpty || x == 1) = true) :
    Meets (Builtin.«tuple.__mul__» ⟨[.ref l, .int x u], []⟩) (fun _ R s => s.heap.get? l = some { cls := .type "tuple", dict := dd, data := .seq items n, slots := sl } ∧ R (.ok (.ret (Value.ref l))) s) :=
  .of_wp fun prog w A R s h => by
    obtain ⟨hp, g, d, tk, os⟩ := s
    obtain ⟨hl, h⟩ := h
    have f1 := AutoSeq1.idx_int
    wp_walk using wpAny_loadPart' hl
    repeat (first
      | (refine wpAny_ite_false (decide_eq_false (by rw [c0]; exact Bool.false_ne_true)) ?_; wp_walk using wpAny_loadPart' hl)
      | (refine wpAny_ite_true (decide_eq_true (by rw [c1])) ?_; wp_walk using wpAny_loadPart' hl))
    exact ⟨_, rfl, h⟩
theorem tuple_mul0 (l : Addr) (items : Array Value) (n : Nat) (dd : Option Addr) (sl : Array (Option Value)) (x : Int) (u : Tok) (c0 : (decide (x < -(2 ^ 63)) || decide (x ≥ 2 ^ 63)) = false) (c1 : (items.isEmpty || x == 1) = false) (c2 : (decide (x ≤ 0) || items.isEmpty) = true) :
    Meets (Builtin.«tuple.__mul__» ⟨[.ref l, .int x u], []⟩) (fun _ R s => s.heap.get? l = some { cls := .type "tuple", dict := dd, data := .seq items n, slots := sl } ∧
      R (.ok (.ret (Value.ref s.heap.objs.size))) { s with heap := s.heap.push { cls := Value.type "tuple", data := Data.seq #[] }, toks := s.toks }) :=
  .of_wp fun prog w A R s h => by
    obtain ⟨hp, g, d, tk, os⟩ := s
    obtain ⟨hl, h⟩ := h
    have f1 := AutoSeq1.idx_int
    wp_walk using wpAny_loadPart' hl
    repeat (first
      | (refine wpAny_ite_false (decide_eq_false (by rw [c0]; exact Bool.false_ne_true)) ?_; wp_walk using wpAny_loadPart' hl)
      | (refine wpAny_ite_false (decide_eq_false (by rw [c1]; exact Bool.false_ne_true)) ?_; wp_walk using wpAny_loadPart' hl)
      | (refine wpAny_ite_true (decide_eq_true (by rw [c2])) ?_; wp_walk using wpAny_loadPart' hl))
    exact ⟨_, rfl, h⟩
def rRepA (K : PySem.W.Frag) : R2 := fun x y H Q => ∃ l k xs, x = .ref l ∧ y = .int k ∧ SqT K H l xs ∧ xs ≠ [] ∧ 0 ≤ k ∧ k ≤ 1000 ∧ xs.length ≤ 1000 ∧ (k = 1 → Q (.ref l) H) ∧ (k ≠ 1 → ∀ p, H p = none → Q (.ref p) (upd H p (.tup (List.replicate k.toNat xs).flatten)))
section
variable {X : Cx}
theorem op_repA : OpR X (binaryOp .Mult) (rRepA X.K) := by
  intro pins s σ H x y v u Q I rx ry h
  obtain ⟨l, k, xs, rfl, rfl, hT, hne, h1, h2, hz, q1, q2⟩ := h
  by_cases hk2 : 2 ≤ k
  · exact op_repT pins s σ H _ _ v u Q I rx ry ⟨l, k, xs, rfl, rfl, hT, hne, hk2, h2, hz, q2 (by omega)⟩
  cases rx
  obtain ⟨t, rfl⟩ := ry
  obtain ⟨its, r, ⟨⟨cls, dd, data, sl⟩, ho, hc, n, hd⟩, hs⟩ := I.tuple hT
  simp only at hc hd
  subst hc hd
  have hle : its.length = xs.length := r.length.symm
  have hn : its ≠ [] := fun e => hne (by
    rw [e] at hle
    exact List.eq_nil_of_length_eq_zero hle.symm)
  have hi : its.toArray.isEmpty = false := by
    cases its with
    | nil => exact absurd rfl hn
    | cons a b => rfl
  have c0 : (decide (k < -(2 ^ 63)) || decide (k ≥ 2 ^ 63)) = false := by
    rw [decide_eq_false (by omega), decide_eq_false (by omega)] <;> rfl
  by_cases hk1 : k = 1
  · subst hk1
    exact wpAny_binaryOp_repeat_ref (T := "tuple") (U := "int") (by decide) ⟨_, ho, rfl⟩ (fun s' => typeIs_int s' 1 t) noFill_tuple_mul F.fills_int_mul F.slot_int_rmul repeat_tuple F.slot_int_index.lookup
      (call_meets F.slot_int_rmul (typeIs_int s 1 t) F.entry_int_rmul (F.args_int_rmul_2 _ _) (int_rmul_tuple 1 t l its.toArray n dd sl)
        ⟨ho, rfl, ⟨_, ho, rfl⟩, call_meets F.slot_tuple_mul ⟨_, ho, rfl⟩ F.entry_tuple_mul (F.args_tuple_mul_2 _ _) (tuple_mul1 l its.toArray n dd sl 1 t c0 (by rw [hi]; rfl)) ⟨ho, ⟨.ref l, H, I, rfl, q1 rfl⟩⟩⟩)
  · have hk0 : k = 0 := by omega
    subst hk0
    refine wpAny_binaryOp_repeat_ref (T := "tuple") (U := "int") (by decide) ⟨_, ho, rfl⟩ (fun s' => typeIs_int s' 0 t) noFill_tuple_mul F.fills_int_mul F.slot_int_rmul repeat_tuple F.slot_int_index.lookup
      (call_meets F.slot_int_rmul (typeIs_int s 0 t) F.entry_int_rmul (F.args_int_rmul_2 _ _) (int_rmul_tuple 0 t l its.toArray n dd sl)
        ⟨ho, rfl, ⟨_, ho, rfl⟩, call_meets F.slot_tuple_mul ⟨_, ho, rfl⟩ F.entry_tuple_mul (F.args_tuple_mul_2 _ _) (tuple_mul0 l its.toArray n dd sl 0 t c0 (by rw [hi]; rfl) (by rw [hi]; rfl)) ⟨ho, ?_⟩⟩)
    refine ⟨.ref s.heap.objs.size, _, I.laid (t' := s.toks) (o := .tup []) (fun b ob q => Heap.get?_push_of_some _ q) (Nat.le_refl _) ?_, rfl, q2 (by omega) _ (I.hok.fresh (Nat.le_refl _))⟩
    exact ⟨Nat.zero_le _, [], .nil, IsTup.new _ _⟩
end
end L2
namespace Dl
open PySem PySem.Spec PyProof.Rows L2 _root_.Evl
theorem o_repA {K : PySem.W.Frag} {S : Store} {Φ : R → Prop} {r1 : R} {ds : List D} {n : Int} (h1 : TpR r1 ds) (h0 : ds ≠ []) (hn : 0 ≤ n ∧ n ≤ 1000) (hl : ds.length ≤ 1000) (k : Φ (.dat (.tup (List.replicate n.toNat ds).flatten))) : Op2 K (rRepA K) r1 (.dat (.int n)) S Φ := fun A H v w so rx ry Q q => by
  obtain ⟨a, xs, rfl, sx, l⟩ := h1.rep rx
  obtain rfl := rep_int ry
  refine ⟨a, n, xs, rfl, rfl, sx, fun e => h0 (by subst e; cases l; rfl), hn.1, hn.2, by rw [← l.length]; exact hl, fun e => ?_, fun _ p hp => q _ _ _ k (Ex.new hp) (rep_new (so := so) hp (l.rep_ _)).1⟩
  subst e
  have e : (List.replicate (1 : Int).toNat ds).flatten = ds := by
    show (List.replicate 1 ds).flatten = ds
    simp
  rw [e] at k
  exact q _ _ _ k (Ex.refl _) (h1.plain rx)
end Dl
/-! Lists and tuples walked alike. -/
namespace L2
open PySem PySem.Spec PyProof.Rows
section
variable {X : Cx} {tg : Expr}
def iSeq (K : PySem.W.Frag) (tl : TE) : TI := fun σ H R => tl σ H fun x H1 => ∃ a, x = .ref a ∧ (((∃ xs, SqL K H1 a xs) ∧ R (Itl K a) H1) ∨ ((∃ xs, SqT K H1 a xs) ∧ R (Itt K a) H1))
theorem pi_seq {l : Expr} {tl : TE} (hl : PE X l tl) : PI X tg l (iSeq X.K tl) := by
  refine ⟨fun pins s σ H R I h => ?_⟩
  refine thn (hl.run pins s σ H _ I h) fun v s1 ⟨x, H1, I1, r1, q1⟩ => ?_
  obtain ⟨a, e, q1⟩ := q1
  subst e
  cases r1
  rcases q1 with ⟨⟨xs, hq⟩, q⟩ | ⟨⟨xs, hq⟩, q⟩
  · obtain ⟨its, rv, p, hz⟩ := I1.list hq
    refine wpAny_pyIter_list p.isList ?_
    refine ⟨s1.heap.objs.size, [s1.heap.objs.size], _, _, H1, rfl, I1.kept (t' := s1.toks) fun b o e => Heap.get?_push_of_some _ e, turn_list a _, ⟨_, Heap.get?_push_size _ rfl, rfl, rfl⟩, fun b hb => ?_, q⟩
    have e : b = s1.heap.objs.size := by simpa using hb
    subst e
    exact I1.fpOk (Nat.le_refl _) (I1.hok.fresh (Nat.le_refl _))
  · obtain ⟨its, rv, p, hz⟩ := I1.tuple hq
    refine wpAny_pyIter_tuple (show s1.heap.IsTuple a its.toArray from p) ?_
    refine ⟨s1.heap.objs.size, [s1.heap.objs.size], _, _, H1, rfl, I1.kept (t' := s1.toks) fun b o e => Heap.get?_push_of_some _ e, turn_tuple a _, ⟨_, Heap.get?_push_size _ rfl, rfl, rfl⟩, fun b hb => ?_, q⟩
    have e : b = s1.heap.objs.size := by simpa using hb
    subst e
    exact I1.fpOk (Nat.le_refl _) (I1.hok.fresh (Nat.le_refl _))
/-- a tuple of the module, walked -/
def iGlo (K : PySem.W.Frag) (tl : TE) : TI := iTup K tl
theorem pi_glo {l : Expr} {tl : TE} (hl : PE X l tl) : PI X tg l (iGlo X.K tl) := pi_tup hl
end
end L2
namespace Dl
open PySem PySem.Spec PyProof.Rows L2 Evl
section
variable {K : PySem.W.Frag} {ρ : List R} {S : Store} {te : TE}
def Sqb (r : R) (Φ : List D → Prop) : Prop := ∃ ds, (r = .dat (.lst ds) ∨ r = .dat (.tup ds) ∨ r = .dat (.ftup ds)) ∧ Φ ds
theorem sqb_l {ds : List D} {Φ : List D → Prop} (k : Φ ds) : Sqb (.dat (.lst ds)) Φ := ⟨ds, .inl rfl, k⟩
theorem sqb_t {ds : List D} {Φ : List D → Prop} (k : Φ ds) : Sqb (.dat (.tup ds)) Φ := ⟨ds, .inr (.inl rfl), k⟩
theorem sqb_f {ds : List D} {Φ : List D → Prop} (k : Φ ds) : Sqb (.dat (.ftup ds)) Φ := ⟨ds, .inr (.inr rfl), k⟩
theorem wi_seq {Φ : List D → Store → Prop} (h : Wp K te ρ S fun r S1 => Sqb r fun ds => Φ ds S1) : WpI K (iSeq K te) ρ S Φ := fun A σ H f Q q =>
  h A σ H f _ fun r S1 A1 v H1 ⟨ds, e, k⟩ g1 so1 rr => by
    rcases e with rfl | rfl | rfl
    · obtain ⟨a, xs, rfl, sq, it⟩ := it_lst rr
      exact ⟨a, rfl, .inl ⟨⟨xs, sq⟩, q ds S1 A1 _ H1 k g1 so1 it⟩⟩
    · obtain ⟨a, xs, rfl, sq, it⟩ := it_tup (.inl rfl) rr
      exact ⟨a, rfl, .inr ⟨⟨xs, sq⟩, q ds S1 A1 _ H1 k g1 so1 it⟩⟩
    · obtain ⟨a, xs, rfl, sq, it⟩ := it_tup (.inr rfl) rr
      exact ⟨a, rfl, .inr ⟨⟨xs, sq⟩, q ds S1 A1 _ H1 k g1 so1 it⟩⟩
def Sqg (K : PySem.W.Frag) (r : R) (Φ : List D → Prop) : Prop := ∃ (x : Str) (ns : List Int), r = .dat (.glo x) ∧ (∀ H : Hp, SqT K H (He.ga K x) (ns.map V.int)) ∧ Φ (ns.map .int)
theorem sqg {x : Str} {ns : List Int} {Φ : List D → Prop} (h : ∀ H : Hp, SqT K H (He.ga K x) (ns.map V.int)) (k : Φ (ns.map .int)) : Sqg K (.dat (.glo x)) Φ := ⟨x, ns, rfl, h, k⟩
theorem wi_glo {Φ : List D → Store → Prop} (h : Wp K te ρ S fun r S1 => Sqg K r fun ds => Φ ds S1) : WpI K (iGlo K te) ρ S Φ := fun A σ H f Q q =>
  h A σ H f _ fun r S1 A1 v H1 ⟨x, ns, e, hx, k⟩ g1 so1 rr => by
    subst e
    cases rr
    refine ⟨_, rfl, ⟨_, hx H1⟩, q _ S1 A1 _ H1 k g1 so1 fun X1 H3 g _ => ?_⟩
    refine ⟨fun i d hd => ?_, ⟨_, hx H3, by rw [List.length_map, List.length_map]; exact Nat.le_refl _⟩⟩
    rw [List.getElem?_map] at hd
    cases e : ns[i]? with
    | none => rw [e] at hd; cases hd
    | some n =>
      rw [e] at hd
      cases hd
      have hv : (ns.map V.int)[i]? = some (.int n) := by rw [List.getElem?_map, e]; rfl
      refine ⟨⟨_, _, hx _, hv⟩, fun x H2 y => ?_⟩
      obtain ⟨e, y⟩ := y
      subst e
      have e2 := y _ (hx _)
      rw [hv] at e2
      cases e2
      exact ⟨Ex.refl _, .int n⟩
theorem c_sum {ds : List D} {ns : List Int} {Φ : R → Prop} (e : ds = ns.map .int) (k : Φ (.dat (.int ns.sum))) : Cb K (rSum K) [.dat (.lst ds)] S Φ := cb_val (fun A H vs so rx => by
  subst e
  obtain ⟨v, rfl, r⟩ := reps1 rx
  obtain ⟨a, xs, rfl, sq, l⟩ := rep_lst r
  rw [repl_int l] at sq
  exact ⟨_, Rep.int _, fun Q q => ⟨a, ns, rfl, sq, q⟩⟩) k
theorem wg_lst {n : Nat} {gs : TGs} {ds : List Dl.D} {Φ : List R → Store → Prop} (hn : ds.length = n) (h : WpGs K gs (ds.map .dat) ρ S Φ) : WpG K (gLst K n gs) (.dat (.lst ds)) ρ S Φ := fun A σ H v f rr Q q => by
  obtain ⟨a, xs, rfl, sq, l⟩ := rep_lst rr
  exact ⟨a, xs, rfl, sq, by rw [← l.length]; exact hn, h A σ H xs f (reps_of l) Q q⟩
theorem wg_lst2 {n : Nat} {gs : TGs} {a b : Dl.D} {Φ : List R → Store → Prop} (hn : 2 = n) (h : WpGs K gs [.dat a, .dat b] ρ S Φ) : WpG K (gLst K n gs) (.dat (.lst [a, b])) ρ S Φ := wg_lst hn h
end
end Dl
/-! Figures: a number's low figures apart. -/
namespace Dg
open PySem L2 TL
def lo : Nat → Nat → List Nat
  | 0, _ => []
  | w + 1, m => lo w (m / 10) ++ [48 + m % 10]
theorem split_lo : ∀ (w n : Nat), 10 ^ w ≤ n → numL n = numL (n / 10 ^ w) ++ lo w n
  | 0, n, _ => by
    show numL n = numL (n / 1) ++ []
    rw [Nat.div_one, List.append_nil]
  | w + 1, n, h => by
    have hp : 0 < 10 ^ w := Nat.pow_pos (by decide)
    have h : 10 ^ w * 10 ≤ n := by
      rw [← Nat.pow_succ]
      exact h
    have h10 : 10 ≤ n := by omega
    have h2 : 10 ^ w ≤ n / 10 := (Nat.le_div_iff_mul_le (by decide)).mpr h
    rw [numL_step h10, split_lo w (n / 10) h2, Nat.div_div_eq_div_mul, List.append_assoc, Nat.pow_succ, Nat.mul_comm 10]
    rfl
theorem lo_mod : ∀ (w n : Nat), lo w n = lo w (n % 10 ^ w)
  | 0, _ => rfl
  | w + 1, n => by
    show lo w (n / 10) ++ [48 + n % 10] = lo w (n % 10 ^ (w + 1) / 10) ++ [48 + n % 10 ^ (w + 1) % 10]
    have e1 : n % 10 ^ (w + 1) / 10 = n / 10 % 10 ^ w := by
      rw [Nat.pow_succ, Nat.mul_comm, Nat.mod_mul_right_div_self]
    have e2 : n % 10 ^ (w + 1) % 10 = n % 10 := by
      rw [Nat.pow_succ, Nat.mul_comm, Nat.mod_mul_right_mod]
    rw [e1, e2, lo_mod w (n / 10)]
theorem lo_zero : ∀ w : Nat, lo w 0 = List.replicate w 48
  | 0 => rfl
  | w + 1 => by
    show lo w 0 ++ [48] = _
    rw [lo_zero w, ← List.replicate_succ']
theorem lo_pad : ∀ (w m : Nat), m < 10 ^ (w + 1) → lo (w + 1) m = List.replicate (w + 1 - (numL m).length) 48 ++ numL m
  | 0, m, h => by
    have h : m < 10 := h
    show [] ++ [48 + m % 10] = _
    rw [numL_lt h, Nat.mod_eq_of_lt h]
    rfl
  | w + 1, m, h => by
    show lo (w + 1) (m / 10) ++ [48 + m % 10] = _
    by_cases hm : m < 10
    · have e : m / 10 = 0 := by omega
      rw [e, lo_zero, numL_lt hm, Nat.mod_eq_of_lt hm]
      rfl
    · have h2 : m / 10 < 10 ^ (w + 1) := by
        rw [Nat.div_lt_iff_lt_mul (by decide), ← Nat.pow_succ]
        exact h
      rw [lo_pad w (m / 10) h2, numL_step (by omega : 10 ≤ m), List.length_append, List.append_assoc]
      have e : w + 1 + 1 - ((numL (m / 10)).length + 1) = w + 1 - (numL (m / 10)).length := by omega
      show _ = List.replicate (w + 1 + 1 - ((numL (m / 10)).length + 1)) 48 ++ _
      rw [e]
/-- the text of a number from 0 on -/
def num (n : Nat) : Str := Str.ofString (toString ((n : Nat) : Int))
theorem tl_zpad (w n : Nat) : tl (zpad w (n : Int)) = List.replicate (w - (numL n).length) 48 ++ numL n := by
  unfold zpad
  rw [tl_append, tl_mk, tl_num, Int.natAbs_natCast]
  unfold numL
  rw [List.length_map]
theorem num_split {n : Nat} (h : 10 ^ 18 ≤ n) : num n = num (n / 10 ^ 18) ++ zpad 18 ((n % 10 ^ 18 : Nat) : Int) := by
  refine ext_tl ?_
  unfold num
  rw [tl_append, tl_num, tl_num, tl_zpad, split_lo 18 n h, lo_mod, lo_pad 17 _ (Nat.mod_lt _ (by decide))]
theorem zpad_len {n : Nat} (h : n < 10 ^ 18) : (zpad 18 (n : Int)).length = 18 := by
  show (tl (zpad 18 (n : Int))).length = 18
  have q := numL_len (k := 18) (by decide) h
  rw [tl_zpad, List.length_append, List.length_replicate]
  omega
theorem joinL_nil : ∀ L : List (List Nat), joinL [] L = L.flatten
  | [] => rfl
  | [p] => by
    show p = p ++ []
    rw [List.append_nil]
  | p :: q :: r => by
    show p ++ ([] ++ joinL [] (q :: r)) = p ++ (q :: r).flatten
    rw [List.nil_append, joinL_nil (q :: r)]
theorem tl_join0 (ys : List Str) : tl (Txt.join "" ys) = (ys.map tl).flatten := by
  rw [join_eq, tl_join]
  exact joinL_nil _
/-- the pieces, the lowest first, behind what is left -/
def Behind (n l : Nat) (ps : List Str) : Prop := tl (num n) = tl (num l) ++ (ps.reverse.map tl).flatten
theorem behind0 {n : Nat} : Behind n n [] := by
  unfold Behind
  rw [List.reverse_nil, List.map_nil, List.flatten_nil, List.append_nil]
theorem behind1 {n l : Nat} {ps : List Str} (h : Behind n l ps) (hl : 10 ^ 18 ≤ l) : Behind n (l / 10 ^ 18) (ps ++ [zpad 18 ((l % 10 ^ 18 : Nat) : Int)]) := by
  unfold Behind at *
  rw [h, num_split hl, tl_append, List.reverse_append, List.reverse_singleton, List.singleton_append, List.map_cons, List.flatten_cons, List.append_assoc]
theorem behind_end {n l : Nat} {ps : List Str} (h : Behind n l ps) : Txt.join "" (ps ++ [num l]).reverse = num n := by
  refine ext_tl ?_
  rw [tl_join0, List.reverse_append, List.reverse_singleton, List.singleton_append, List.map_cons, List.flatten_cons]
  exact h.symm
theorem sum18 : ∀ ps : List Str, (∀ p ∈ ps, p.length = 18) → (ps.map (·.length)).sum = 18 * ps.length
  | [], _ => rfl
  | p :: r, h => by
    rw [List.map_cons, List.sum_cons, h p (List.mem_cons_self ..), sum18 r fun q hq => h q (List.mem_cons_of_mem _ hq), List.length_cons]
    omega
theorem num_len {n k : Nat} (hk : 0 < k) (h : n < 10 ^ k) : (num n).length ≤ k := by
  show (tl (num n)).length ≤ k
  unfold num
  rw [tl_num]
  exact numL_len hk h
theorem big_le : 2 ^ 4000 ≤ 10 ^ (18 * 70) := by
  have h : (2 ^ 100) ^ 40 ≤ (10 ^ 31) ^ 40 := Nat.pow_le_pow_left (by decide) 40
  rw [← Nat.pow_mul, ← Nat.pow_mul] at h
  exact Nat.le_trans h (Nat.pow_le_pow_right (by decide) (by decide))
end Dg
/-! What the checker judges, on data. -/
namespace Ck
open PySem L2 Dl
def oddp (n : Nat) : Nat := if n % 2 = 0 ∧ 0 < n then oddp (n / 2) else n
termination_by n
decreasing_by omega
theorem oddp_even {n : Nat} (h : n % 2 = 0) (h0 : 0 < n) : oddp n = oddp (n / 2) := by
  rw [oddp, if_pos ⟨h, h0⟩]
theorem oddp_odd {n : Nat} (h : n % 2 ≠ 0) : oddp n = n := by
  rw [oddp, if_neg (fun z => h z.1)]
theorem oddp_dvd (n : Nat) : oddp n ∣ n := by
  induction n using Nat.strongRecOn with
  | ind n ih =>
    by_cases h : n % 2 = 0 ∧ 0 < n
    · rw [oddp_even h.1 h.2]
      have h1 := ih (n / 2) (by omega)
      exact Nat.dvd_trans h1 ⟨2, by omega⟩
    · rw [oddp, if_neg h]
      exact Nat.dvd_refl n
def isMany (n : Int) : Bool := (decide (3 ≤ n) && decide (n ≤ 256)) && (decide (oddp n.toNat = 1) || (decide (oddp n.toNat = 3) || (decide (oddp n.toNat = 5) || decide (oddp n.toNat = 7))))
/-- some size divides -/
theorem size_ex {n : Int} (h : isMany n = true) : ∃ s ∈ [2, 3, 5, (7 : Int)], n % s = 0 := by
  unfold isMany at h
  simp only [Bool.and_eq_true, Bool.or_eq_true, decide_eq_true_eq] at h
  obtain ⟨⟨h3, _⟩, h⟩ := h
  obtain ⟨m, rfl⟩ := Int.eq_ofNat_of_zero_le (show 0 ≤ n by omega)
  rw [Int.toNat_natCast] at h
  have dv := oddp_dvd m
  rcases h with h | h | h | h
  · refine ⟨2, by simp, ?_⟩
    by_cases e : m % 2 = 0
    · omega
    · rw [oddp_odd e] at h
      omega
  · rw [h] at dv
    exact ⟨3, by simp, by omega⟩
  · rw [h] at dv
    exact ⟨5, by simp, by omega⟩
  · rw [h] at dv
    exact ⟨7, by simp, by omega⟩
def isWh : D → Bool
  | .int _ => true
  | _ => false
mutual
/-- built-in things, all the way down -/
def pd : D → Bool
  | .tup ds => pdL ds
  | .ftup ds => pdL ds
  | .lst ds => pdL ds
  | .flst ds => pdL ds
  | .dic ks => pdK ks
  | .ins _ _ => false
  | .glo _ => false
  | .ty _ => false
  | .non => true
  | .bl _ => true
  | .int _ => true
  | .str _ => true
def pdL : List D → Bool
  | [] => true
  | d :: ds => pd d && pdL ds
def pdK : List (Key × D) → Bool
  | [] => true
  | (_, d) :: ds => pd d && pdK ds
end
theorem pdL_all : ∀ {ds : List D}, pdL ds = true ↔ ∀ d ∈ ds, pd d = true
  | [] => by simp [pdL]
  | d :: ds => by
    rw [pdL, Bool.and_eq_true, pdL_all (ds := ds)]
    simp
theorem pd_Pl {d : D} (h : pd d = true) : d.Pl := by
  cases d <;> first | rfl | (rw [pd] at h; cases h)
def items : D → Option (List D)
  | .tup ds => some ds
  | .ftup ds => some ds
  | _ => none
def intOf : D → Int
  | .int i => i
  | _ => 0
theorem whs {ds : List D} (h : ds.all isWh = true) : ds = (ds.map intOf).map .int := by
  induction ds with
  | nil => rfl
  | cons d ds ih =>
    rw [List.all_cons, Bool.and_eq_true] at h
    rw [List.map_cons, List.map_cons, ← ih h.2]
    cases d <;> first | rfl | (have := h.1; cases this)
theorem whs_map (ns : List Int) : (ns.map D.int).all isWh = true := by
  induction ns with
  | nil => rfl
  | cons n ns ih => rw [List.map_cons, List.all_cons, ih]; rfl
theorem int_map (ns : List Int) : (ns.map D.int).map intOf = ns := by
  induction ns with
  | nil => rfl
  | cons n ns ih => rw [List.map_cons, List.map_cons, ih]; rfl
/-- a tuple of so many lengths as there can be winds -/
def lensB (d : D) : Bool := match items d with
  | some ds => isMany (ds.length : Nat) && ds.all isWh
  | none => false
def lensOf (d : D) : List Int := ((items d).getD []).map intOf
/-- a ring of n places -/
def ringB (n : Int) (d : D) : Bool := match items d with
  | some [a, b, c] => (isWh a && (isWh b && isWh c)) && ((decide (intOf b = 2) || (decide (intOf b = 3) || (decide (intOf b = 5) || decide (intOf b = 7)))) && (decide (n % intOf b = 0) && ((decide (0 ≤ intOf a) && decide (intOf a < n / intOf b)) && !decide (intOf c = 0))))
  | _ => false
def ringsB (n : Int) (d : D) : Bool := match items d with
  | some ds => ds.all (ringB n)
  | none => false
def ringOf (d : D) : Int × Int × Int := match items d with
  | some [a, b, c] => (intOf a, intOf b, intOf c)
  | _ => (0, 0, 0)
def ringsOf (d : D) : List (Int × Int × Int) := ((items d).getD []).map ringOf
/-- the places of a ring, and what it puts there -/
def spots (f n g : Int) : List Nat := (List.range (Builtin.Range.rangeSize f n g).toNat).map fun i => (f + (i : Nat) * g).toNat
def bump (t : Int) (ls : List Int) (p : Nat) : List Int := ls.set p ((ls[p]?).getD 0 + t)
def putR (ls : List Int) (r : Int × Int × Int) : List Int := (spots r.1 (ls.length : Nat) ((ls.length : Nat) / r.2.1)).foldl (bump r.2.2) ls
def putAll (ls : List Int) (rs : List (Int × Int × Int)) : List Int := rs.foldl putR ls
def homeB (c p : D) : Bool := match items c with
  | some [.str w, l] => decide (w = "home") && (lensB l && (ringsB ((lensOf l).length : Nat) p && decide (putAll (List.replicate (lensOf l).length 0) (ringsOf p) = lensOf l)))
  | _ => false
theorem bump_len (t : Int) (ls : List Int) (p : Nat) : (bump t ls p).length = ls.length := List.length_set ..
theorem bumps_len (t : Int) (ps : List Nat) : ∀ ls : List Int, (ps.foldl (bump t) ls).length = ls.length := by
  induction ps with
  | nil => intro ls; rfl
  | cons p ps ih => intro ls; rw [List.foldl_cons, ih, bump_len]
theorem putR_len (ls : List Int) (r : Int × Int × Int) : (putR ls r).length = ls.length := bumps_len ..
theorem putAll_len (rs : List (Int × Int × Int)) : ∀ ls : List Int, (putAll ls rs).length = ls.length := by
  induction rs with
  | nil => intro ls; rfl
  | cons r rs ih => intro ls; show (putAll (putR ls r) rs).length = _; rw [ih, putR_len]
/-- all places of a range lie in it -/
theorem spot_in {f n g : Int} {i : Nat} (g0 : 0 < g) (f0 : 0 ≤ f) (hi : i < (Builtin.Range.rangeSize f n g).toNat) : 0 ≤ f + (i : Nat) * g ∧ f + (i : Nat) * g < n := by
  unfold Builtin.Range.rangeSize at hi
  rw [if_pos g0] at hi
  by_cases h : f < n
  · rw [if_pos h] at hi
    have q0 := Int.ediv_nonneg (show 0 ≤ n - f - 1 by omega) (show 0 ≤ g by omega)
    have q1 := Int.ediv_mul_le (n - f - 1) (show g ≠ 0 by omega)
    generalize (n - f - 1) / g = q at *
    have hq : (i : Int) ≤ q := by omega
    have h1 : (i : Int) * g ≤ q * g := Int.mul_le_mul_of_nonneg_right hq (by omega)
    have h2 : 0 ≤ (i : Int) * g := Int.mul_nonneg (by omega) (by omega)
    omega
  · rw [if_neg h] at hi
    omega
end Ck
/-! What comes of lengths at a root, on whole numbers. -/
namespace Ck
open PySem L2 Dl
/-- what lengths come to, by the powers of r -/
def ev : List Int → Int → Int
  | [], _ => 0
  | l :: ls, r => l + r * ev ls r
theorem ev_snoc (ls : List Int) (l r : Int) : ev (ls ++ [l]) r = ev ls r + r ^ ls.length * l := by
  induction ls with
  | nil => simp [ev]
  | cons x ls ih =>
    rw [List.cons_append, ev, ih, ev, List.length_cons, Int.pow_succ]
    grind
theorem ev_take {ls : List Int} {i : Nat} {l r : Int} (h : ls[i]? = some l) : ev (ls.take (i + 1)) r = ev (ls.take i) r + r ^ i * l := by
  rw [List.take_add_one, h]
  have hl := (List.getElem?_eq_some_iff.mp h).1
  show ev (ls.take i ++ [l]) r = _
  rw [ev_snoc, List.length_take, Nat.min_eq_left (by omega)]
theorem sum_step (a l b m : Int) : (a % m + l * (b % m)) % m = (a + b * l) % m := by
  rw [Int.add_emod, Int.emod_emod, Int.mul_emod, Int.emod_emod, ← Int.mul_emod, ← Int.add_emod, Int.mul_comm l b]
theorem pow_step (b r m : Int) (i : Nat) (h : b = r ^ i % m) : b * r % m = r ^ (i + 1) % m := by
  rw [h, Int.pow_succ, Int.mul_emod, Int.emod_emod, ← Int.mul_emod]
/-- whether a root fits -/
def fitp (p n m r : Int) : Bool := decide (ev ((List.range p.toNat).map fun i => if (i : Nat) % 2 = 1 then (-1 : Int) else 1) (r ^ (n / (2 * p)).toNat % m) % m = 0)
def fits (n m r : Int) : Bool :=
  if n % 2 = 1 then decide (ev (List.replicate n.toNat 1) r % m = 0)
  else if n % 3 = 0 then fitp 3 n m r
  else if n % 5 = 0 then fitp 5 n m r
  else if n % 7 = 0 then fitp 7 n m r
  else decide (r ^ (n / 2).toNat % m = m - 1)
/-- numbers that the checker can reckon with -/
def small (d : D) : Prop := match items d with
  | some ds => ∀ i, D.int i ∈ ds → i.natAbs < 2 ^ 400
  | none => True
/-- a paper of away: a modulus, and a root below it -/
def awayL (l p : D) : Bool := lensB l && match items p with
  | some [a, b] => (isWh a && isWh b) && (decide (2 ≤ intOf a) && (decide (0 ≤ intOf b) && decide (intOf b < intOf a))) && (fits ((lensOf l).length : Nat) (intOf a) (intOf b) && !decide (ev (lensOf l) (intOf b) % intOf a = 0))
  | _ => false
def awayB (c p : D) : Bool := match items c with
  | some [.str w, l] => decide (w = "away") && awayL l p
  | _ => false
/-- moduli that the checker can reckon with -/
def lowM (p : D) : Prop := ∀ m b, items p = some [.int m, b] → m < 4000000000000000000
end Ck
/-! Powers, and what a root gives. -/
namespace Ck
theorem pow_mod (x m : Int) (k : Nat) : (x % m) ^ k % m = x ^ k % m := by
  induction k with
  | zero => rw [Int.pow_zero, Int.pow_zero]
  | succ k ih => rw [Int.pow_succ, Int.pow_succ, Int.mul_emod, ih, Int.emod_emod, ← Int.mul_emod]
theorem mul_mod_l (a b m : Int) : (a % m * b) % m = (a * b) % m := by
  rw [Int.mul_emod, Int.emod_emod, ← Int.mul_emod]
theorem mul_mod_r (a b m : Int) : (a * (b % m)) % m = (a * b) % m := by
  rw [Int.mul_emod, Int.emod_emod, ← Int.mul_emod]
theorem sq_pow (x : Int) (l : Nat) : (x * x) ^ l = x ^ (2 * l) := by
  rw [Int.pow_mul]
  congr 1
  rw [Int.pow_succ, Int.pow_succ, Int.pow_zero, Int.one_mul]
theorem half_even {l : Nat} (h : l % 2 = 0) (f b m : Int) : f * (b * b % m) ^ (l / 2) % m = f * b ^ l % m := by
  rw [← mul_mod_r, pow_mod, mul_mod_r, sq_pow, show 2 * (l / 2) = l by omega]
theorem half_odd {l : Nat} (h : l % 2 = 1) (f b m : Int) : (f * b % m) * (b * b % m) ^ (l / 2) % m = f * b ^ l % m := by
  rw [mul_mod_l, half_sq]
where
  half_sq : f * b * (b * b % m) ^ (l / 2) % m = f * b ^ l % m := by
    rw [← mul_mod_r, pow_mod, mul_mod_r, sq_pow]
    have e : b ^ l = b ^ (2 * (l / 2)) * b := by
      rw [← Int.pow_succ]
      congr 1
      omega
    rw [e]
    congr 1
    grind
/-- sums of powers -/
theorem sum_pows (c : Nat → Int) (x m : Int) (n : Nat) : ((List.range n).map fun k => x ^ k % m * c k).sum % m = ev ((List.range n).map c) x % m := by
  induction n with
  | zero => rfl
  | succ n ih =>
    rw [List.range_succ, List.map_append, List.map_append, List.map_cons, List.map_nil, List.map_cons, List.map_nil, ev_snoc, List.sum_append, List.sum_cons, List.sum_nil, Int.add_zero, List.length_map, List.length_range, Int.add_emod, ih, mul_mod_l, ← Int.add_emod]
theorem ones_range (n : Nat) : (List.range n).map (fun _ => (1 : Int)) = List.replicate n 1 := by
  rw [List.map_const', List.length_range]
theorem sum_ones (x m : Int) (n : Nat) : ((List.range n).map fun k => x ^ k % m).sum % m = ev (List.replicate n 1) x % m := by
  rw [← ones_range, ← sum_pows]
  congr 2
  apply List.map_congr_left
  intro k _
  rw [Int.mul_one]
/-- what lengths come to, from the last on -/
theorem ev_back (ls : List Int) (r m : Int) : ls.foldr (fun l a => (a * r + l) % m) 0 = ev ls r % m := by
  induction ls with
  | nil => rw [ev]; simp
  | cons l ls ih =>
    rw [List.foldr_cons, ih, ev, Int.add_emod, mul_mod_l, ← Int.add_emod, Int.mul_comm, Int.add_comm]
end Ck
/-! The two primes that are one more than a multiple of so many winds, and their roots. -/
namespace Ck
def smalls (N : Nat) : List Nat := ((List.range (N - 2)).map fun i => 2 + i).filter fun k => decide (k * k ≤ N)
def isP (N : Nat) : Bool := (smalls N).all fun k => decide (0 < N % k)
def pu (n : Nat) : Nat → List Nat
  | 0 => []
  | i + 1 => if isP (n * (i + 1) + 1) then pu n i ++ [n * (i + 1) + 1] else pu n i
theorem pu_mono (n : Nat) {i j : Nat} (h : i ≤ j) : (pu n i).length ≤ (pu n j).length := by
  induction h with
  | refl => exact Nat.le_refl _
  | step _ ih =>
    refine Nat.le_trans ih ?_
    rw [pu]
    split
    · rw [List.length_append]
      omega
    · exact Nat.le_refl _
def tab : List (Nat × Nat × Nat × Nat × Nat × Nat × Nat) := [(3, 3, 7, 13, 2, 3, 9), (4, 2, 5, 13, 2, 5, 8), (5, 5, 11, 31, 3, 2, 4), (6, 1, 7, 13, 3, 4, 10), (7, 5, 29, 43, 7, 4, 16), (8, 4, 17, 41, 2, 3, 161), (10, 2, 11, 31, 2, 15, 29), (12, 2, 13, 37, 2, 8, 45), (14, 2, 29, 43, 4, 2, 22), (16, 5, 17, 97, 3, 8, 0), (20, 2, 41, 61, 2, 8, 0), (24, 3, 73, 97, 7, 4, 0), (28, 3, 29, 113, 2, 2, 0), (32, 5, 97, 193, 19, 8, 0), (40, 5, 41, 241, 6, 5, 0), (48, 3, 97, 193, 2, 4, 0), (56, 4, 113, 281, 9, 6, 0), (64, 3, 193, 257, 11, 11, 0), (80, 4, 241, 401, 17, 26, 0), (96, 1, 97, 193, 5, 2, 0), (112, 2, 113, 337, 3, 5, 0), (128, 4, 257, 641, 9, 21, 0), (160, 9, 641, 1601, 11, 43, 0), (192, 2, 193, 577, 5, 14, 0), (224, 2, 449, 673, 2, 10, 0), (256, 2, 257, 769, 3, 7, 0)]
def rowOk : Nat × Nat × Nat × Nat × Nat × Nat × Nat → Bool
  | (n, e, p, q, r, s, t) => decide (pu n (e + 1) = [p, q]) && (decide ((pu n e).length < 2) && decide (e ≤ 20)) && (decide (2 ≤ p) && (decide (p < 2000) && (decide (2 ≤ q) && decide (q < 2000)))) && (decide (r < p) && fits n p r) && (decide (s < q) && fits n q s) && (decide (16 ≤ n) || (decide (t < p * q) && (decide (p * q < 2000) && fits n (p * q : Nat) t)))
theorem tab_ok : tab.all rowOk = true := by decide +kernel
theorem oddp_pow (n : Nat) : 0 < n → ∃ k, n = oddp n * 2 ^ k := by
  induction n using Nat.strongRecOn with
  | ind n ih =>
    intro h0
    by_cases h : n % 2 = 0
    · obtain ⟨k, e⟩ := ih (n / 2) (by omega) (by omega)
      refine ⟨k + 1, ?_⟩
      rw [oddp_even h h0, Nat.pow_succ, ← Nat.mul_assoc, ← e]
      omega
    · exact ⟨0, by rw [oddp_odd h, Nat.pow_zero, Nat.mul_one]⟩
theorem tab_in {n : Nat} (h : isMany (n : Nat) = true) : ∃ x ∈ tab, x.1 = n := by
  unfold isMany at h
  simp only [Bool.and_eq_true, Bool.or_eq_true, decide_eq_true_eq, Int.toNat_natCast] at h
  obtain ⟨⟨h3, h4⟩, h⟩ := h
  obtain ⟨k, e⟩ := oddp_pow n (by omega)
  have hk : k ≤ 8 := by
    apply Nat.le_of_not_lt
    intro z
    have z1 : 2 ^ 9 ≤ 2 ^ k := Nat.pow_le_pow_right (by decide) z
    have z2 : 1 * 2 ^ k ≤ oddp n * 2 ^ k := Nat.mul_le_mul_right _ (by omega)
    omega
  have hd : ∀ q ∈ [1, 3, 5, 7], ∀ k ∈ List.range 9, 3 ≤ q * 2 ^ k → q * 2 ^ k ≤ 256 → (tab.any fun x => x.1 == q * 2 ^ k) = true := by decide +kernel
  have := hd (oddp n) (by simp only [List.mem_cons, List.not_mem_nil, or_false]; omega) k (by rw [List.mem_range]; omega) (by rw [← e]; omega) (by rw [← e]; omega)
  rw [← e, List.any_eq_true] at this
  obtain ⟨x, hx, hn⟩ := this
  exact ⟨x, hx, by simpa using hn⟩
/-- a modulus with a root that fits -/
def Good (n m : Int) : Prop := (2 ≤ m ∧ m < 2000) ∧ ∃ r, (0 ≤ r ∧ r < m) ∧ fits n m r = true
theorem primes_ok {n : Nat} (h : isMany (n : Nat) = true) : ∃ e p q : Nat, pu n (e + 1) = [p, q] ∧ (pu n e).length < 2 ∧ e ≤ 20 ∧ Good n p ∧ Good n q ∧ (n < 16 → Good n (p * q : Nat)) := by
  obtain ⟨⟨n', e, p, q, r, s, t⟩, hx, rfl⟩ := tab_in h
  have ok := List.all_eq_true.mp tab_ok _ hx
  simp only [rowOk, Bool.and_eq_true, Bool.or_eq_true, decide_eq_true_eq] at ok
  obtain ⟨⟨⟨⟨⟨o1, o2, oe⟩, o3, o4, o5, o6⟩, o7, o8⟩, o9, o10⟩, o11⟩ := ok
  refine ⟨e, p, q, o1, o2, oe, ⟨⟨by omega, by omega⟩, r, ⟨by omega, by omega⟩, o8⟩, ⟨⟨by omega, by omega⟩, s, ⟨by omega, by omega⟩, o10⟩, fun z => ?_⟩
  have z : n' < 16 := z
  rcases o11 with z1 | ⟨z1, z2, z3⟩
  · omega
  · have : 2 * 2 ≤ p * q := Nat.mul_le_mul o3 o5
    exact ⟨⟨by omega, by omega⟩, t, ⟨by omega, by omega⟩, z3⟩
end Ck
/-! Rings come to nothing at a root that fits. -/
namespace Ck
open PySem
/-- the sum of a list over the places of a ring -/
theorem ev_set (ls : List Int) (r t : Int) : ∀ p : Nat, p < ls.length → ev (bump t ls p) r = ev ls r + t * r ^ p := by
  induction ls with
  | nil => intro p h; exact absurd h (Nat.not_lt_zero p)
  | cons l ls ih =>
    intro p h
    cases p with
    | zero =>
      show ev ((l + t) :: ls) r = _
      rw [ev, ev]
      rw [Int.pow_zero]
      omega
    | succ p =>
      have := ih p (by simpa using h)
      show ev (l :: bump t ls p) r = _
      rw [ev, ev, this, Int.pow_succ]
      grind
theorem ev_bumps (r t : Int) (ps : List Nat) : ∀ ls : List Int, (∀ p ∈ ps, p < ls.length) → ev (ps.foldl (bump t) ls) r = ev ls r + t * (ps.map fun p => r ^ p).sum := by
  induction ps with
  | nil => intro ls _; simp
  | cons p ps ih =>
    intro ls h
    rw [List.foldl_cons, ih (bump t ls p) (fun q hq => by rw [bump_len]; exact h q (by simp [hq])), ev_set ls r t p (h p (by simp)), List.map_cons, List.sum_cons]
    grind
theorem ev_zeros (n : Nat) (r : Int) : ev (List.replicate n 0) r = 0 := by
  induction n with
  | zero => rfl
  | succ n ih => rw [List.replicate_succ, ev, ih]; omega
/-- from the alternating sum: the power at half way is -1 -/
theorem alt3 {b m : Int} (h : (1 - b + b ^ 2) % m = 0) : m ∣ b ^ 3 + 1 := by
  obtain ⟨c, e⟩ := Int.dvd_of_emod_eq_zero h
  exact ⟨c * (b + 1), by grind⟩
theorem alt5 {b m : Int} (h : (1 - b + b ^ 2 - b ^ 3 + b ^ 4) % m = 0) : m ∣ b ^ 5 + 1 := by
  obtain ⟨c, e⟩ := Int.dvd_of_emod_eq_zero h
  exact ⟨c * (b + 1), by grind⟩
theorem alt7 {b m : Int} (h : (1 - b + b ^ 2 - b ^ 3 + b ^ 4 - b ^ 5 + b ^ 6) % m = 0) : m ∣ b ^ 7 + 1 := by
  obtain ⟨c, e⟩ := Int.dvd_of_emod_eq_zero h
  exact ⟨c * (b + 1), by grind⟩
theorem sq3 {b m : Int} (h : (1 - b + b ^ 2) % m = 0) : m ∣ 1 + b ^ 2 + b ^ 4 := by
  obtain ⟨c, e⟩ := Int.dvd_of_emod_eq_zero h
  exact ⟨c * (1 + b + b ^ 2), by grind⟩
theorem sq5 {b m : Int} (h : (1 - b + b ^ 2 - b ^ 3 + b ^ 4) % m = 0) : m ∣ 1 + b ^ 2 + b ^ 4 + b ^ 6 + b ^ 8 := by
  obtain ⟨c, e⟩ := Int.dvd_of_emod_eq_zero h
  exact ⟨c * (1 + b + b ^ 2 + b ^ 3 + b ^ 4), by grind⟩
theorem sq7 {b m : Int} (h : (1 - b + b ^ 2 - b ^ 3 + b ^ 4 - b ^ 5 + b ^ 6) % m = 0) : m ∣ 1 + b ^ 2 + b ^ 4 + b ^ 6 + b ^ 8 + b ^ 10 + b ^ 12 := by
  obtain ⟨c, e⟩ := Int.dvd_of_emod_eq_zero h
  exact ⟨c * (1 + b + b ^ 2 + b ^ 3 + b ^ 4 + b ^ 5 + b ^ 6), by grind⟩
theorem ev_mod (ls : List Int) (x m : Int) : ev ls (x % m) % m = ev ls x % m := by
  induction ls with
  | nil => rfl
  | cons l ls ih =>
    rw [ev, ev, Int.add_emod, Int.mul_emod, ih, Int.emod_emod, ← Int.mul_emod, ← Int.add_emod]
/-- the places of a ring -/
theorem spots_eq {f n g s : Nat} (hg : 0 < g) (hs : n = s * g) (hf : f < g) : spots (f : Nat) (n : Nat) (g : Nat) = (List.range s).map fun j => f + j * g := by
  have e : (Builtin.Range.rangeSize (f : Nat) (n : Nat) (g : Nat)).toNat = s := by
    unfold Builtin.Range.rangeSize
    rw [if_pos (by omega)]
    by_cases h0 : s = 0
    · subst h0
      rw [Nat.zero_mul] at hs
      rw [if_neg (by omega)]
      rfl
    · have h1 : 1 * g ≤ s * g := Nat.mul_le_mul_right g (by omega)
      rw [if_pos (by omega)]
      have e1 : (n : Int) - f - 1 = (s - 1 : Nat) * (g : Nat) + ((g - f - 1 : Nat) : Int) := by
        have : s * g = (s - 1) * g + g := by
          rw [← Nat.succ_mul]
          congr 1
          omega
        rw [hs, this]
        push_cast
        omega
      have e2 : ((n : Int) - f - 1) / (g : Nat) = (s - 1 : Nat) := by
        rw [e1, Int.add_comm, Int.add_mul_ediv_right _ _ (by omega), Int.ediv_eq_zero_of_lt (by omega) (by omega), Int.zero_add]
      rw [e2]
      omega
  unfold spots
  rw [e]
  apply List.map_congr_left
  intro j _
  rw [← Int.natCast_mul, ← Int.natCast_add, Int.toNat_natCast]
end Ck
/-! Rings come to nothing at a root that fits: the end. -/
namespace Ck
open PySem
theorem one_odd {n : Nat} (h : isMany (n : Nat) = true) : (n % 3 = 0 → n % 5 ≠ 0 ∧ n % 7 ≠ 0) ∧ (n % 5 = 0 → n % 7 ≠ 0) ∧ (n % 2 = 1 → n = 3 ∨ n = 5 ∨ n = 7) := by
  obtain ⟨x, hx, rfl⟩ := tab_in h
  have : tab.all (fun x => decide ((x.1 % 3 = 0 → x.1 % 5 ≠ 0 ∧ x.1 % 7 ≠ 0) ∧ (x.1 % 5 = 0 → x.1 % 7 ≠ 0) ∧ (x.1 % 2 = 1 → x.1 = 3 ∨ x.1 = 5 ∨ x.1 = 7))) = true := by decide +kernel
  exact of_decide_eq_true (List.all_eq_true.mp this x hx)
/-- the sum of the powers over a ring -/
def geo (y : Int) : Nat → Int
  | 0 => 0
  | k + 1 => 1 + y * geo y k
theorem geo_sum (r : Int) (f g : Nat) (s : Nat) : ((List.range s).map fun j => r ^ (f + j * g)).sum = r ^ f * geo (r ^ g) s := by
  induction s generalizing f with
  | zero => simp [geo]
  | succ s ih =>
    rw [List.range_succ_eq_map, List.map_cons, List.sum_cons, List.map_map, geo, Nat.zero_mul, Nat.add_zero]
    have e : ((List.range s).map ((fun j => r ^ (f + j * g)) ∘ Nat.succ)).sum = r ^ (f + g) * geo (r ^ g) s := by
      rw [← ih (f + g)]
      congr 1
      apply List.map_congr_left
      intro j _
      show r ^ (f + (j + 1) * g) = r ^ (f + g + j * g)
      congr 1
      rw [Nat.succ_mul]
      omega
    rw [e, Int.pow_add]
    grind
theorem fitp_ev {p n m r : Int} {q : Nat} (h : fitp p n m r = true) (e : (n / (2 * p)).toNat = q) : ev ((List.range p.toNat).map fun i => if (i : Nat) % 2 = 1 then (-1 : Int) else 1) (r ^ q) % m = 0 := by
  unfold fitp at h
  rw [e] at h
  have h := of_decide_eq_true h
  rw [ev_mod] at h
  exact h
theorem geo_zero {n s : Nat} {m r : Int} (hn : isMany (n : Nat) = true) (hs : s = 2 ∨ s = 3 ∨ s = 5 ∨ s = 7) (hd : n % s = 0) (hf : fits (n : Nat) m r = true) : m ∣ geo (r ^ (n / s)) s := by
  obtain ⟨o3, o5, o2⟩ := one_odd hn
  unfold fits at hf
  by_cases h2 : n % 2 = 1
  · rw [if_pos (by omega)] at hf
    have hf := of_decide_eq_true hf
    have hns : n = s := by
      have := o2 h2
      rcases hs with rfl | rfl | rfl | rfl <;> omega
    subst hns
    rw [Int.toNat_natCast] at hf
    rw [Nat.div_self (by omega), Int.pow_one]
    apply Int.dvd_of_emod_eq_zero
    rw [← hf]
    congr 1
    have : ∀ k : Nat, geo r k = ev (List.replicate k 1) r := fun k => by
      induction k with
      | zero => rfl
      | succ k ih => rw [geo, List.replicate_succ, ev, ih]
    exact this n
  · rw [if_neg (by omega)] at hf
    by_cases h3 : n % 3 = 0
    · rw [if_pos (by omega)] at hf
      have he := fitp_ev (q := n / 6) hf (by omega)
      have he : (1 + r ^ (n / 6) * (-1 + r ^ (n / 6) * (1 + r ^ (n / 6) * 0))) % m = 0 := he
      have he : (1 - r ^ (n / 6) + (r ^ (n / 6)) ^ 2) % m = 0 := by
        rw [← he]
        congr 1
        grind
      have := o3 h3
      rcases hs with rfl | rfl | rfl | rfl
      · have e : r ^ (n / 2) = (r ^ (n / 6)) ^ 3 := by rw [← Int.pow_mul]; congr 1; omega
        rw [e]
        have d := alt3 he
        have g : geo ((r ^ (n / 6)) ^ 3) 2 = (r ^ (n / 6)) ^ 3 + 1 := by
          rw [geo, geo, geo]
          grind
        rw [g]
        exact d
      · have e : r ^ (n / 3) = (r ^ (n / 6)) ^ 2 := by rw [← Int.pow_mul]; congr 1; omega
        rw [e]
        have d := sq3 he
        have g : geo ((r ^ (n / 6)) ^ 2) 3 = 1 + (r ^ (n / 6)) ^ 2 + (r ^ (n / 6)) ^ 4 := by
          rw [geo, geo, geo, geo]
          grind
        rw [g]
        exact d
      · omega
      · omega
    · rw [if_neg (by omega)] at hf
      by_cases h5 : n % 5 = 0
      · rw [if_pos (by omega)] at hf
        have he := fitp_ev (q := n / 10) hf (by omega)
        have he : (1 + r ^ (n / 10) * (-1 + r ^ (n / 10) * (1 + r ^ (n / 10) * (-1 + r ^ (n / 10) * (1 + r ^ (n / 10) * 0))))) % m = 0 := he
        have he : (1 - r ^ (n / 10) + (r ^ (n / 10)) ^ 2 - (r ^ (n / 10)) ^ 3 + (r ^ (n / 10)) ^ 4) % m = 0 := by
          rw [← he]
          congr 1
          grind
        have := o5 h5
        rcases hs with rfl | rfl | rfl | rfl
        · have e : r ^ (n / 2) = (r ^ (n / 10)) ^ 5 := by rw [← Int.pow_mul]; congr 1; omega
          rw [e]
          have d := alt5 he
          have g : geo ((r ^ (n / 10)) ^ 5) 2 = (r ^ (n / 10)) ^ 5 + 1 := by
            rw [geo, geo, geo]
            grind
          rw [g]
          exact d
        · omega
        · have e : r ^ (n / 5) = (r ^ (n / 10)) ^ 2 := by rw [← Int.pow_mul]; congr 1; omega
          rw [e]
          have d := sq5 he
          have g : geo ((r ^ (n / 10)) ^ 2) 5 = 1 + (r ^ (n / 10)) ^ 2 + (r ^ (n / 10)) ^ 4 + (r ^ (n / 10)) ^ 6 + (r ^ (n / 10)) ^ 8 := by
            rw [geo, geo, geo, geo, geo, geo]
            grind
          rw [g]
          exact d
        · omega
      · rw [if_neg (by omega)] at hf
        by_cases h7 : n % 7 = 0
        · rw [if_pos (by omega)] at hf
          have he := fitp_ev (q := n / 14) hf (by omega)
          have he : (1 + r ^ (n / 14) * (-1 + r ^ (n / 14) * (1 + r ^ (n / 14) * (-1 + r ^ (n / 14) * (1 + r ^ (n / 14) * (-1 + r ^ (n / 14) * (1 + r ^ (n / 14) * 0))))))) % m = 0 := he
          have he : (1 - r ^ (n / 14) + (r ^ (n / 14)) ^ 2 - (r ^ (n / 14)) ^ 3 + (r ^ (n / 14)) ^ 4 - (r ^ (n / 14)) ^ 5 + (r ^ (n / 14)) ^ 6) % m = 0 := by
            rw [← he]
            congr 1
            grind
          rcases hs with rfl | rfl | rfl | rfl
          · have e : r ^ (n / 2) = (r ^ (n / 14)) ^ 7 := by rw [← Int.pow_mul]; congr 1; omega
            rw [e]
            have d := alt7 he
            have g : geo ((r ^ (n / 14)) ^ 7) 2 = (r ^ (n / 14)) ^ 7 + 1 := by
              rw [geo, geo, geo]
              grind
            rw [g]
            exact d
          · omega
          · omega
          · have e : r ^ (n / 7) = (r ^ (n / 14)) ^ 2 := by rw [← Int.pow_mul]; congr 1; omega
            rw [e]
            have d := sq7 he
            have g : geo ((r ^ (n / 14)) ^ 2) 7 = 1 + (r ^ (n / 14)) ^ 2 + (r ^ (n / 14)) ^ 4 + (r ^ (n / 14)) ^ 6 + (r ^ (n / 14)) ^ 8 + (r ^ (n / 14)) ^ 10 + (r ^ (n / 14)) ^ 12 := by
              rw [geo, geo, geo, geo, geo, geo, geo, geo]
              grind
            rw [g]
            exact d
        · rw [if_neg (by omega)] at hf
          have hf := of_decide_eq_true hf
          rcases hs with rfl | rfl | rfl | rfl
          · have e : ((n : Int) / 2).toNat = n / 2 := by omega
            rw [e] at hf
            have g : geo (r ^ (n / 2)) 2 = r ^ (n / 2) + 1 := by
              rw [geo, geo, geo]
              grind
            rw [g]
            refine ⟨r ^ (n / 2) / m + 1, ?_⟩
            have := Int.emod_add_mul_ediv (r ^ (n / 2)) m
            grind
          · omega
          · omega
          · omega
/-- a ring put on lengths leaves what they come to -/
theorem ev_putR {n : Nat} {ls : List Int} {a s t m r : Int} (hl : ls.length = n) (hn : isMany (n : Nat) = true) (hs : s = 2 ∨ s = 3 ∨ s = 5 ∨ s = 7) (hd : (n : Int) % s = 0) (a0 : 0 ≤ a) (a1 : a < (n : Int) / s) (hf : fits (n : Nat) m r = true) : ev (putR ls (a, s, t)) r % m = ev ls r % m := by
  obtain ⟨f, rfl⟩ := Int.eq_ofNat_of_zero_le a0
  obtain ⟨z, rfl⟩ := Int.eq_ofNat_of_zero_le (show 0 ≤ s by omega)
  have hz : z = 2 ∨ z = 3 ∨ z = 5 ∨ z = 7 := by omega
  have hd2 : n % z = 0 := by
    rw [← Int.natCast_emod] at hd
    omega
  rw [← Int.natCast_ediv] at a1
  have nz : n = z * (n / z) := by
    have := Nat.div_add_mod n z
    omega
  have gz := geo_zero hn hz hd2 hf
  unfold putR
  show ev ((spots (f : Nat) (ls.length : Nat) ((ls.length : Nat) / (z : Int))).foldl (bump t) ls) r % m = _
  rw [hl, ← Int.natCast_ediv, spots_eq (s := z) (by omega) nz (by omega)]
  rw [ev_bumps, List.map_map]
  · have e : ((List.range z).map ((fun p => r ^ p) ∘ fun j => f + j * (n / z))).sum = r ^ f * geo (r ^ (n / z)) z := geo_sum r f (n / z) z
    rw [e]
    obtain ⟨c, ec⟩ := gz
    rw [ec]
    have : ev ls r + t * (r ^ f * (m * c)) = ev ls r + m * (t * (r ^ f * c)) := by grind
    rw [this, Int.add_mul_emod_self_left]
  · intro p hp
    obtain ⟨j, hj, rfl⟩ := List.mem_map.mp hp
    rw [List.mem_range] at hj
    have h1 : (j + 1) * (n / z) ≤ z * (n / z) := Nat.mul_le_mul_right _ hj
    rw [Nat.succ_mul] at h1
    omega
end Ck
/-! How large lengths get by rings. -/
namespace Ck
open PySem
theorem bump_bnd {B T : Nat} {t : Int} {ls : List Int} {p : Nat} (h : ∀ l ∈ ls, l.natAbs ≤ B) (ht : t.natAbs ≤ T) : ∀ l ∈ bump t ls p, l.natAbs ≤ B + T := by
  intro l hl
  unfold bump at hl
  rcases List.mem_or_eq_of_mem_set hl with h1 | h1
  · have := h l h1
    omega
  · subst h1
    cases e : ls[p]? with
    | none => show ((0 : Int) + t).natAbs ≤ _; omega
    | some x =>
      have := h x (List.mem_of_getElem? e)
      show (x + t).natAbs ≤ _
      omega
theorem bumps_bnd {T : Nat} {t : Int} (ht : t.natAbs ≤ T) (ps : List Nat) : ∀ {B : Nat} {ls : List Int}, (∀ l ∈ ls, l.natAbs ≤ B) → ∀ l ∈ ps.foldl (bump t) ls, l.natAbs ≤ B + ps.length * T := by
  induction ps with
  | nil => intro B ls h l hl; have := h l hl; simp; omega
  | cons p ps ih =>
    intro B ls h l hl
    have := ih (bump_bnd (p := p) h ht) l hl
    rw [List.length_cons, Nat.succ_mul]
    omega
theorem putR_bnd {n B T : Nat} {ls : List Int} {a s t : Int} (hl : ls.length = n) (hs : s = 2 ∨ s = 3 ∨ s = 5 ∨ s = 7) (hd : (n : Int) % s = 0) (a0 : 0 ≤ a) (a1 : a < (n : Int) / s) (h : ∀ l ∈ ls, l.natAbs ≤ B) (ht : t.natAbs ≤ T) : ∀ l ∈ putR ls (a, s, t), l.natAbs ≤ B + 7 * T := by
  obtain ⟨f, rfl⟩ := Int.eq_ofNat_of_zero_le a0
  obtain ⟨z, rfl⟩ := Int.eq_ofNat_of_zero_le (show 0 ≤ s by omega)
  have hd2 : n % z = 0 := by
    rw [← Int.natCast_emod] at hd
    omega
  rw [← Int.natCast_ediv] at a1
  have nz : n = z * (n / z) := by
    have := Nat.div_add_mod n z
    omega
  intro l hx
  unfold putR at hx
  have hx : l ∈ (spots (f : Nat) (ls.length : Nat) ((ls.length : Nat) / (z : Int))).foldl (bump t) ls := hx
  rw [hl, ← Int.natCast_ediv, spots_eq (s := z) (by omega) nz (by omega)] at hx
  have h1 := bumps_bnd ht _ h l hx
  rw [List.length_map, List.length_range] at h1
  have h2 : z * T ≤ 7 * T := Nat.mul_le_mul_right T (by omega)
  omega
end Ck
namespace K34
open PySem PySem.Spec PyProof.Rows L2
def topS (i : Nat) : Stmt := PySem.Challenge.pw_rosenames_k34_claims_of_away_judged.main.body.getD i (.Pass ⟨0, 0, 0, 0⟩)
abbrev s_holds : Stmt := topS 5
theorem sc_holds : FnScope ["claim", "paper", "word"] ["claim", "paper"] (defScope s_holds) := ⟨rfl, rfl, rfl, by decide +kernel, rfl, by decide +kernel, by decide +kernel⟩
abbrev s_shows_home : Stmt := topS 6
theorem sc_shows_home : FnScope ["lengths", "paper"] ["lengths", "paper"] (defScope s_shows_home) := ⟨rfl, rfl, rfl, by decide +kernel, rfl, by decide +kernel, by decide +kernel⟩
abbrev s_shows_away : Stmt := topS 7
theorem sc_shows_away : FnScope ["lengths", "paper", "modulus", "root"] ["lengths", "paper"] (defScope s_shows_away) := ⟨rfl, rfl, rfl, by decide +kernel, rfl, by decide +kernel, by decide +kernel⟩
abbrev s_is_whole : Stmt := topS 10
theorem sc_is_whole : FnScope ["thing"] ["thing"] (defScope s_is_whole) := ⟨rfl, rfl, rfl, by decide +kernel, rfl, by decide +kernel, by decide +kernel⟩
abbrev s_is_many : Stmt := topS 11
theorem sc_is_many : FnScope ["thing", "left"] ["thing"] (defScope s_is_many) := ⟨rfl, rfl, rfl, by decide +kernel, rfl, by decide +kernel, by decide +kernel⟩
abbrev s_is_place : Stmt := topS 12
theorem sc_is_place : FnScope ["thing", "many"] ["thing", "many"] (defScope s_is_place) := ⟨rfl, rfl, rfl, by decide +kernel, rfl, by decide +kernel, by decide +kernel⟩
abbrev s_are_lengths : Stmt := topS 13
theorem sc_are_lengths : FnScope ["thing", "length"] ["thing"] (defScope s_are_lengths) := ⟨rfl, rfl, rfl, by decide +kernel, rfl, by decide +kernel, by decide +kernel⟩
abbrev s_are_rings : Stmt := topS 14
theorem sc_are_rings : FnScope ["thing", "many", "ring"] ["thing", "many"] (defScope s_are_rings) := ⟨rfl, rfl, rfl, by decide +kernel, rfl, by decide +kernel, by decide +kernel⟩
abbrev s_is_ring : Stmt := topS 15
theorem sc_is_ring : FnScope ["thing", "many", "first", "size", "times"] ["thing", "many"] (defScope s_is_ring) := ⟨rfl, rfl, rfl, by decide +kernel, rfl, by decide +kernel, by decide +kernel⟩
abbrev s_with_rings : Stmt := topS 16
theorem sc_with_rings : FnScope ["lengths", "rings", "many", "put", "first", "size", "times", "place"] ["lengths", "rings"] (defScope s_with_rings) := ⟨rfl, rfl, rfl, by decide +kernel, rfl, by decide +kernel, by decide +kernel⟩
abbrev s_root_fits : Stmt := topS 17
theorem sc_root_fits : FnScope ["many", "modulus", "root", "size", "signs", "at"] ["many", "modulus", "root"] (defScope s_root_fits) := ⟨rfl, rfl, rfl, by decide +kernel, rfl, by decide +kernel, by decide +kernel⟩
abbrev s_summed : Stmt := topS 18
theorem sc_summed : FnScope ["lengths", "modulus", "root", "total", "worth", "length"] ["lengths", "modulus", "root"] (defScope s_summed) := ⟨rfl, rfl, rfl, by decide +kernel, rfl, by decide +kernel, by decide +kernel⟩
abbrev s_power : Stmt := topS 19
theorem sc_power : FnScope ["root", "times", "modulus", "worth", "time"] ["root", "times", "modulus"] (defScope s_power) := ⟨rfl, rfl, rfl, by decide +kernel, rfl, by decide +kernel, by decide +kernel⟩
abbrev s_l_cell : Stmt := topS 28
theorem sc_l_cell : FnScope ["_law_script", "_law_k", "_law_state", "_law_cell_here"] ["_law_script", "_law_k"] (defScope s_l_cell) := ⟨rfl, rfl, rfl, by decide +kernel, rfl, by decide +kernel, by decide +kernel⟩
abbrev s_l_pool : Stmt := topS 29
theorem sc_l_pool : FnScope ["_law_cell_here", "_law_digits"] ["_law_cell_here"] (defScope s_l_pool) := ⟨rfl, rfl, rfl, by decide +kernel, rfl, by decide +kernel, by decide +kernel⟩
abbrev s_l_take : Stmt := topS 30
theorem sc_l_take : FnScope ["_law_pool_here", "_law_many_here", "_law_state", "_law_digit"] ["_law_pool_here", "_law_many_here"] (defScope s_l_take) := ⟨rfl, rfl, rfl, by decide +kernel, rfl, by decide +kernel, by decide +kernel⟩
abbrev s_l_many : Stmt := topS 31
theorem sc_l_many : FnScope ["_law_pool_here", "_law_small"] ["_law_pool_here"] (defScope s_l_many) := ⟨rfl, rfl, rfl, by decide +kernel, rfl, by decide +kernel, by decide +kernel⟩
abbrev s_l_is_many : Stmt := topS 32
theorem sc_l_is_many : FnScope ["_law_many_here"] ["_law_many_here"] (defScope s_l_is_many) := ⟨rfl, rfl, rfl, by decide +kernel, rfl, by decide +kernel, by decide +kernel⟩
abbrev s_l_whole : Stmt := topS 33
theorem sc_l_whole : FnScope ["_law_thing"] ["_law_thing"] (defScope s_l_whole) := ⟨rfl, rfl, rfl, by decide +kernel, rfl, by decide +kernel, by decide +kernel⟩
abbrev s_l_row_of : Stmt := topS 34
theorem sc_l_row_of : FnScope ["_law_thing", "_law_many_here", "_law_part"] ["_law_thing", "_law_many_here"] (defScope s_l_row_of) := ⟨rfl, rfl, rfl, by decide +kernel, rfl, by decide +kernel, by decide +kernel⟩
abbrev s_l_put : Stmt := topS 35
theorem sc_l_put : FnScope ["_law_lengths_here", "_law_rings_here", "_law_found", "_law_first", "_law_size", "_law_times", "_law_place"] ["_law_lengths_here", "_law_rings_here"] (defScope s_l_put) := ⟨rfl, rfl, rfl, by decide +kernel, rfl, by decide +kernel, by decide +kernel⟩
abbrev s_l_sizes : Stmt := topS 36
theorem sc_l_sizes : FnScope ["_law_many_here", "_law_size"] ["_law_many_here"] (defScope s_l_sizes) := ⟨rfl, rfl, rfl, by decide +kernel, rfl, by decide +kernel, by decide +kernel⟩
abbrev s_l_rings : Stmt := topS 37
theorem sc_l_rings : FnScope ["_law_pool_here", "_law_many_here", "_law_most", "_law_found", "_law_turn", "_law_size", "_law_times"] ["_law_pool_here", "_law_many_here", "_law_most"] (defScope s_l_rings) := ⟨rfl, rfl, rfl, by decide +kernel, rfl, by decide +kernel, by decide +kernel⟩
abbrev s_l_is : Stmt := topS 38
theorem sc_l_is : FnScope ["_law_claim", "_law_paper", "_law_due", "_law_found"] ["_law_claim", "_law_paper", "_law_due"] (defScope s_l_is) := ⟨rfl, rfl, rfl, by decide +kernel, rfl, by decide +kernel, by decide +kernel⟩
abbrev s_l_at : Stmt := topS 39
theorem sc_l_at : FnScope ["_law_row", "_law_at_here", "_law_thing"] ["_law_row", "_law_at_here", "_law_thing"] (defScope s_l_at) := ⟨rfl, rfl, rfl, by decide +kernel, rfl, by decide +kernel, by decide +kernel⟩
abbrev s_l_odd_rows : Stmt := topS 40
theorem sc_l_odd_rows : FnScope ["_law_row", "_law_pool_here", "_law_found", "_law_at_here", "_law_things", "_law_thing"] ["_law_row", "_law_pool_here"] (defScope s_l_odd_rows) := ⟨rfl, rfl, rfl, by decide +kernel, rfl, by decide +kernel, by decide +kernel⟩
abbrev s_l_power : Stmt := topS 41
theorem sc_l_power : FnScope ["_law_root_here", "_law_many_here", "_law_modulus_here", "_law_found", "_law_base"] ["_law_root_here", "_law_many_here", "_law_modulus_here"] (defScope s_l_power) := ⟨rfl, rfl, rfl, by decide +kernel, rfl, by decide +kernel, by decide +kernel⟩
abbrev s_l_is_root : Stmt := topS 42
theorem sc_l_is_root : FnScope ["_law_root_here", "_law_many_here", "_law_modulus_here", "_law_k", "_law_odd", "_law_base", "_law_some"] ["_law_root_here", "_law_many_here", "_law_modulus_here"] (defScope s_l_is_root) := ⟨rfl, rfl, rfl, by decide +kernel, rfl, by decide +kernel, by decide +kernel⟩
abbrev s_l_comes : Stmt := topS 43
theorem sc_l_comes : FnScope ["_law_lengths_here", "_law_root_here", "_law_modulus_here", "_law_found", "_law_length"] ["_law_lengths_here", "_law_root_here", "_law_modulus_here"] (defScope s_l_comes) := ⟨rfl, rfl, rfl, by decide +kernel, rfl, by decide +kernel, by decide +kernel⟩
abbrev s_l_primes : Stmt := topS 44
theorem sc_l_primes : FnScope ["_law_many_here", "_law_found", "_law_number", "_law_some", "_law_k"] ["_law_many_here"] (defScope s_l_primes) := ⟨rfl, rfl, rfl, by decide +kernel, rfl, by decide +kernel, by decide +kernel⟩
abbrev s_l_root : Stmt := topS 45
theorem sc_l_root : FnScope ["_law_pool_here", "_law_many_here", "_law_modulus_here", "_law_root_here", "_law_turn"] ["_law_pool_here", "_law_many_here", "_law_modulus_here"] (defScope s_l_root) := ⟨rfl, rfl, rfl, by decide +kernel, rfl, by decide +kernel, by decide +kernel⟩
abbrev s_l_judged : Stmt := topS 46
theorem sc_l_judged : FnScope ["_law_claim", "_law_paper", "_law_lengths_here"] ["_law_claim", "_law_paper"] (defScope s_l_judged) := ⟨rfl, rfl, rfl, by decide +kernel, rfl, by decide +kernel, by decide +kernel⟩
abbrev s_l_lengths : Stmt := topS 47
theorem sc_l_lengths : FnScope ["_law_pool_here", "_law_many_here", "_law_way", "_law_k", "_law_found", "_law_at_here"] ["_law_pool_here", "_law_many_here"] (defScope s_l_lengths) := ⟨rfl, rfl, rfl, by decide +kernel, rfl, by decide +kernel, by decide +kernel⟩
abbrev s_l_papers : Stmt := topS 48
theorem sc_l_papers : FnScope ["_law_modulus_here", "_law_root_here", "_law_pool_here", "_law_found"] ["_law_modulus_here", "_law_root_here", "_law_pool_here"] (defScope s_l_papers) := ⟨rfl, rfl, rfl, by decide +kernel, rfl, by decide +kernel, by decide +kernel⟩
abbrev s_l_claims : Stmt := topS 49
theorem sc_l_claims : FnScope ["_law_lengths_here", "_law_pool_here", "_law_found", "_law_some", "_law_many_here"] ["_law_lengths_here", "_law_pool_here"] (defScope s_l_claims) := ⟨rfl, rfl, rfl, by decide +kernel, rfl, by decide +kernel, by decide +kernel⟩
abbrev s_l_modulus : Stmt := topS 50
theorem sc_l_modulus : FnScope ["_law_pool_here", "_law_many_here", "_law_one", "_law_other", "_law_way"] ["_law_pool_here", "_law_many_here"] (defScope s_l_modulus) := ⟨rfl, rfl, rfl, by decide +kernel, rfl, by decide +kernel, by decide +kernel⟩
abbrev s_law : Stmt := topS 51
theorem sc_law : FnScope ["_law_script", "_law_k", "_law_pool_here", "_law_many_here", "_law_modulus_here", "_law_root_here", "_law_lengths_here", "_law_claim", "_law_paper", "_law_rings_here", "_law_other"] ["_law_script"] (defScope s_law) := ⟨rfl, rfl, rfl, by decide +kernel, rfl, by decide +kernel, by decide +kernel⟩
def d_holds : He.DefD := ⟨("holds", none), "holds", "holds", defArgs s_holds, defBody s_holds, defScope s_holds, [], []⟩
def d_shows_home : He.DefD := ⟨("shows_home", none), "shows_home", "shows_home", defArgs s_shows_home, defBody s_shows_home, defScope s_shows_home, [], []⟩
def d_shows_away : He.DefD := ⟨("shows_away", none), "shows_away", "shows_away", defArgs s_shows_away, defBody s_shows_away, defScope s_shows_away, [], []⟩
def d_is_whole : He.DefD := ⟨("is_whole", none), "is_whole", "is_whole", defArgs s_is_whole, defBody s_is_whole, defScope s_is_whole, [], []⟩
def d_is_many : He.DefD := ⟨("is_many", none), "is_many", "is_many", defArgs s_is_many, defBody s_is_many, defScope s_is_many, [], []⟩
def d_is_place : He.DefD := ⟨("is_place", none), "is_place", "is_place", defArgs s_is_place, defBody s_is_place, defScope s_is_place, [], []⟩
def d_are_lengths : He.DefD := ⟨("are_lengths", none), "are_lengths", "are_lengths", defArgs s_are_lengths, defBody s_are_lengths, defScope s_are_lengths, [], []⟩
def d_are_rings : He.DefD := ⟨("are_rings", none), "are_rings", "are_rings", defArgs s_are_rings, defBody s_are_rings, defScope s_are_rings, [], []⟩
def d_is_ring : He.DefD := ⟨("is_ring", none), "is_ring", "is_ring", defArgs s_is_ring, defBody s_is_ring, defScope s_is_ring, [], []⟩
def d_with_rings : He.DefD := ⟨("with_rings", none), "with_rings", "with_rings", defArgs s_with_rings, defBody s_with_rings, defScope s_with_rings, [], []⟩
def d_root_fits : He.DefD := ⟨("root_fits", none), "root_fits", "root_fits", defArgs s_root_fits, defBody s_root_fits, defScope s_root_fits, [], []⟩
def d_summed : He.DefD := ⟨("summed", none), "summed", "summed", defArgs s_summed, defBody s_summed, defScope s_summed, [], []⟩
def d_power : He.DefD := ⟨("power", none), "power", "power", defArgs s_power, defBody s_power, defScope s_power, [], []⟩
def d_l_cell : He.DefD := ⟨("_law_cell", none), "_law_cell", "_law_cell", defArgs s_l_cell, defBody s_l_cell, defScope s_l_cell, [], []⟩
def d_l_pool : He.DefD := ⟨("_law_pool", none), "_law_pool", "_law_pool", defArgs s_l_pool, defBody s_l_pool, defScope s_l_pool, [], []⟩
def d_l_take : He.DefD := ⟨("_law_take", none), "_law_take", "_law_take", defArgs s_l_take, defBody s_l_take, defScope s_l_take, [], []⟩
def d_l_many : He.DefD := ⟨("_law_many", none), "_law_many", "_law_many", defArgs s_l_many, defBody s_l_many, defScope s_l_many, [], []⟩
def d_l_is_many : He.DefD := ⟨("_law_is_many", none), "_law_is_many", "_law_is_many", defArgs s_l_is_many, defBody s_l_is_many, defScope s_l_is_many, [], []⟩
def d_l_whole : He.DefD := ⟨("_law_whole", none), "_law_whole", "_law_whole", defArgs s_l_whole, defBody s_l_whole, defScope s_l_whole, [], []⟩
def d_l_row_of : He.DefD := ⟨("_law_row_of", none), "_law_row_of", "_law_row_of", defArgs s_l_row_of, defBody s_l_row_of, defScope s_l_row_of, [], []⟩
def d_l_put : He.DefD := ⟨("_law_put", none), "_law_put", "_law_put", defArgs s_l_put, defBody s_l_put, defScope s_l_put, [], []⟩
def d_l_sizes : He.DefD := ⟨("_law_sizes", none), "_law_sizes", "_law_sizes", defArgs s_l_sizes, defBody s_l_sizes, defScope s_l_sizes, [], []⟩
def d_l_rings : He.DefD := ⟨("_law_rings", none), "_law_rings", "_law_rings", defArgs s_l_rings, defBody s_l_rings, defScope s_l_rings, [], []⟩
def d_l_is : He.DefD := ⟨("_law_is", none), "_law_is", "_law_is", defArgs s_l_is, defBody s_l_is, defScope s_l_is, [], []⟩
def d_l_at : He.DefD := ⟨("_law_at", none), "_law_at", "_law_at", defArgs s_l_at, defBody s_l_at, defScope s_l_at, [], []⟩
def d_l_odd_rows : He.DefD := ⟨("_law_odd_rows", none), "_law_odd_rows", "_law_odd_rows", defArgs s_l_odd_rows, defBody s_l_odd_rows, defScope s_l_odd_rows, [], []⟩
def d_l_power : He.DefD := ⟨("_law_power", none), "_law_power", "_law_power", defArgs s_l_power, defBody s_l_power, defScope s_l_power, [], []⟩
def d_l_is_root : He.DefD := ⟨("_law_is_root", none), "_law_is_root", "_law_is_root", defArgs s_l_is_root, defBody s_l_is_root, defScope s_l_is_root, [], []⟩
def d_l_comes : He.DefD := ⟨("_law_comes", none), "_law_comes", "_law_comes", defArgs s_l_comes, defBody s_l_comes, defScope s_l_comes, [], []⟩
def d_l_primes : He.DefD := ⟨("_law_primes", none), "_law_primes", "_law_primes", defArgs s_l_primes, defBody s_l_primes, defScope s_l_primes, [], []⟩
def d_l_root : He.DefD := ⟨("_law_root", none), "_law_root", "_law_root", defArgs s_l_root, defBody s_l_root, defScope s_l_root, [], []⟩
def d_l_judged : He.DefD := ⟨("_law_judged", none), "_law_judged", "_law_judged", defArgs s_l_judged, defBody s_l_judged, defScope s_l_judged, [], []⟩
def d_l_lengths : He.DefD := ⟨("_law_lengths", none), "_law_lengths", "_law_lengths", defArgs s_l_lengths, defBody s_l_lengths, defScope s_l_lengths, [], []⟩
def d_l_papers : He.DefD := ⟨("_law_papers", none), "_law_papers", "_law_papers", defArgs s_l_papers, defBody s_l_papers, defScope s_l_papers, [], []⟩
def d_l_claims : He.DefD := ⟨("_law_claims", none), "_law_claims", "_law_claims", defArgs s_l_claims, defBody s_l_claims, defScope s_l_claims, [], []⟩
def d_l_modulus : He.DefD := ⟨("_law_modulus", none), "_law_modulus", "_law_modulus", defArgs s_l_modulus, defBody s_l_modulus, defScope s_l_modulus, [], []⟩
def d_law : He.DefD := ⟨("law", none), "law", "law", defArgs s_law, defBody s_law, defScope s_law, [], []⟩
def fn : List He.DefD := [d_holds, d_shows_home, d_shows_away, d_is_whole, d_is_many, d_is_place, d_are_lengths, d_are_rings, d_is_ring, d_with_rings, d_root_fits, d_summed, d_power, d_l_cell, d_l_pool, d_l_take, d_l_many, d_l_is_many, d_l_whole, d_l_row_of, d_l_put, d_l_sizes, d_l_rings, d_l_is, d_l_at, d_l_odd_rows, d_l_power, d_l_is_root, d_l_comes, d_l_primes, d_l_root, d_l_judged, d_l_lengths, d_l_papers, d_l_claims, d_l_modulus, d_law]
def fa0 : List He.Fa := [.glo "holds", .glo "shows_home", .glo "shows_away", .glo "is_whole", .glo "is_many", .glo "is_place", .glo "are_lengths", .glo "are_rings", .glo "is_ring", .glo "with_rings", .glo "root_fits", .glo "summed", .glo "power", .glo "_law_cell", .glo "_law_pool", .glo "_law_take", .glo "_law_many", .glo "_law_is_many", .glo "_law_whole", .glo "_law_row_of", .glo "_law_put", .glo "_law_sizes", .glo "_law_rings", .glo "_law_is", .glo "_law_at", .glo "_law_odd_rows", .glo "_law_power", .glo "_law_is_root", .glo "_law_comes", .glo "_law_primes"]
def fa1 : List He.Fa := [.glo "_law_root", .glo "_law_judged", .glo "_law_lengths", .glo "_law_papers", .glo "_law_claims", .glo "_law_modulus", .glo "law", .free "isinstance", .free "int", .free "bool", .free "abs", .free "len", .free "divmod", .free "range", .free "max", .free "min", .free "str", .free "tuple", .free "all", .free "list", .free "sum", .int "LEAST_MANY" 3, .int "MOST_MANY" 256, .glo "ODD_SIZES", .glo "SIZES"]
def fa : List He.Fa := fa0 ++ fa1
def ex (K : PySem.W.Frag) : Bool := He.tupB K "ODD_SIZES" [.int 3, .int 5, .int 7] && (He.tupB K "SIZES" [.int 2, .int 3, .int 5, .int 7])
def ns0 : List PySem.Str := ["LEAST_MANY", "MOST_MANY", "ODD_SIZES", "SIZES", "holds", "shows_home", "shows_away", "shows_least", "shows_fewest", "is_whole", "is_many", "is_place", "are_lengths", "are_rings", "is_ring", "with_rings", "root_fits", "summed", "power", "are_pulls", "are_rising", "are_stretches", "is_stretch", "places_had", "are_parted", "is_pair", "_law_cell", "_law_pool", "_law_take", "_law_many"]
def ns1 : List PySem.Str := ["_law_is_many", "_law_whole", "_law_row_of", "_law_put", "_law_sizes", "_law_rings", "_law_is", "_law_at", "_law_odd_rows", "_law_power", "_law_is_root", "_law_comes", "_law_primes", "_law_root", "_law_judged", "_law_lengths", "_law_papers", "_law_claims", "_law_modulus"]
def names : List PySem.Str := ns0 ++ ns1
abbrev R : PySem.W.OpenRow := PySem.W.OpenLaw.row PySem.Challenge.rw_rosenames_k34_claims_of_away_judged
def hk : PySem.W.Hook := hookM 5 fa fn ex
def ob (s : PySem.W.SharedT) : He.AlD × Bool := (He.obsD fa fn (He.frG (HandSHeadRun.getT s) (asN (HandSHeadRun.getT s) 5)), ex (He.frG (HandSHeadRun.getT s) (asN (HandSHeadRun.getT s) 5)))
theorem ob_eq (s : PySem.W.SharedT) : ob s = hk.obs s.abs := by
  have e : HandSHeadRun.getT s = s.abs.heap.get? := funext fun a => HandSHeadRun.getT_eq s a
  unfold ob
  rw [e]
  rfl
theorem run (w : World) : HandSHeadRun.RunEq R (PySem.W.view R.prog [51]) hk ob 6000 names w := by
  intro os
  kernel_rfl
end K34
open Dl in
local macro_rules
  | `(tactic| decreasing_trivial_pre_omega) => `(tactic| first
    | with_reducible refine ws_seq ?_
    | with_reducible refine ws_set ?_
    | with_reducible refine ws_ret ?_
    | with_reducible refine ws_if ?_
    | with_reducible refine ws_par ?_
    | with_reducible refine ws_app ?_
    | with_reducible refine ws_drop ?_
    | with_reducible refine ws_asg ?_
    | with_reducible refine ws_next ?_
    | with_reducible refine wt_test ?_
    | with_reducible refine wt_B ?_
    | with_reducible refine wt_not ?_
    | with_reducible refine wt_yes ?_
    | with_reducible refine wt_and ?_
    | with_reducible refine wt_or ?_
    | with_reducible refine wp_op ?_
    | ((with_reducible apply wp_var); exact rfl)
    | ((with_reducible apply wp_varM); exact rfl)
    | with_reducible refine wp_int ?_
    | with_reducible refine wp_str ?_
    | with_reducible refine wp_bl ?_
    | with_reducible refine wp_non ?_
    | with_reducible refine wp_ty ?_
    | with_reducible refine wp_glo ?_
    | with_reducible refine wp_un ?_
    | with_reducible refine wp_cb ?_
    | with_reducible refine wa_cons ?_
    | with_reducible refine wa_nil ?_
    | with_reducible refine wp_call ?_
    | with_reducible refine wp_callM ?_
    | with_reducible refine wp_tup ?_
    | with_reducible refine wp_lst ?_
    | with_reducible refine ws_setM ?_
    | with_reducible refine ws_retM ?_
    | with_reducible refine wn_lst ?_
    | with_reducible refine wp_if ?_
    | with_reducible refine wp_dic ?_
    | with_reducible refine wp_revT ?_
    | with_reducible refine rev_t ?_
    | with_reducible refine wp_andV ?_
    | with_reducible refine wp_orV ?_
    | with_reducible refine wp_notV ?_
    | with_reducible refine wp_chain ?_
    | with_reducible refine wp_sl ?_
    | with_reducible refine wo_none ?_
    | with_reducible refine wo_some ?_
    | with_reducible refine wg_name ?_
    | with_reducible refine wgs_nil ?_
    | ((with_reducible refine wg_tup2 ?_ ?_); exact rfl)
    | ((with_reducible refine wg_tup3 ?_ ?_); exact rfl)
    | ((with_reducible refine wg_lst2 ?_ ?_); exact rfl)
    | ((with_reducible refine wg_ftup2 ?_ ?_); exact rfl)
    | ((with_reducible refine wg_ftup3 ?_ ?_); exact rfl)
    | with_reducible refine wgs_cons ?_
    | with_reducible refine bo ?_
    | with_reducible refine in1 ?_
    | with_reducible refine two ?_
    | with_reducible refine tu_2 ?_
    | with_reducible refine tu_1 ?_
    | with_reducible refine tu_0 ?_
    | with_reducible refine tu_3 ?_
    | with_reducible refine tu_4 ?_
    | ((with_reducible apply tu_of); exact rfl; exact Nat.le_of_ble_eq_true rfl)
    | with_reducible refine o_Ii ?_
    | with_reducible refine o_Ib ?_
    | with_reducible refine o_eqI ?_
    | with_reducible refine o_neI ?_
    | with_reducible refine o_eqS ?_
    | with_reducible refine o_neS ?_
    | with_reducible refine o_eqB ?_
    | with_reducible refine o_neB ?_
    | with_reducible refine o_isN ?_
    | with_reducible refine o_notN ?_
    | with_reducible refine u_neg ?_
    | with_reducible refine ip_I ?_
    | with_reducible refine c_lenT ?_
    | with_reducible refine c_lenF ?_
    | with_reducible refine c_lenL ?_
    | with_reducible refine c_lenFl ?_
    | ((with_reducible refine c_isInt ?_ ?_); first | assumption | exact rfl)
    | ((with_reducible refine c_isBool ?_ ?_); first | assumption | exact rfl)
    | ((with_reducible refine c_isStr ?_ ?_); first | assumption | exact rfl)
    | ((with_reducible refine c_isTup ?_ ?_); first | assumption | exact rfl)
    | ((with_reducible refine c_isLst ?_ ?_); first | assumption | exact rfl)
    | with_reducible refine c_abs ?_
    | with_reducible refine c_max ?_
    | with_reducible refine c_min ?_
    | with_reducible refine c_intB ?_
    | ((with_reducible refine o_mod ?_ ?_); first | decide | omega)
    | ((with_reducible refine o_mul 400 64 ?_ ?_ (by decide) ?_); assumption; omega)
    | ((with_reducible refine o_mul 400 400 ?_ ?_ (by decide) ?_); assumption; assumption)
    | ((with_reducible refine o_mulS ?_ ?_ ?_) <;> first | omega | skip)
    | ((with_reducible refine o_fdivS ?_ ?_ ?_) <;> first | omega | skip)
    | with_reducible refine wg_setL ?_
    | ((with_reducible refine o_powL ?_ ?_ ?_ ?_) <;> (first | decide | skip))
    | ((with_reducible apply o_ixT); first | exact rfl | exact at_zero | exact at_one | exact at_two)
    | ((with_reducible apply o_ixF); first | exact rfl | exact at_zero | exact at_one | exact at_two)
    | ((with_reducible apply o_catA); (first | exact tp_t | exact tp_f); (first | exact tp_t | exact tp_f))
    | ((with_reducible apply o_cat); (first | exact ls_dat | exact ls_mu rfl); (first | exact ls_dat | exact ls_mu rfl))
    | ((with_reducible apply s_A); (first | exact tp_t | exact tp_f))
    | ((with_reducible apply s_L); (first | exact .inl ls_dat | exact .inl (ls_mu rfl) | exact .inr rfl))
    | ((with_reducible apply c_list); (first | exact sq_t | exact sq_f | exact sq_l | exact sq_fl | exact sq_m rfl))
    | ((with_reducible apply c_tupF); (first | exact ls_dat | exact ls_mu rfl))
    | ((with_reducible apply c_tupL); (first | exact ls_dat | exact ls_mu st_last))
    | with_reducible refine one ?_
    | ((with_reducible apply c_lenM); exact st_last)
    | with_reducible refine app_last ?_
    | with_reducible refine wn_list ?_
    | with_reducible refine wn_rep ?_
    | with_reducible refine wn_cat ?_
    | with_reducible refine ws_augS ?_
    | ((with_reducible apply ws_aug); exact rfl; exact nofun)
    | ((with_reducible refine o_divC ?_ ?_ ?_) <;> first | decide | omega | skip)
    | with_reducible refine wi_rng1 ?_
    | with_reducible refine wi_rng2 ?_
    | with_reducible refine wi_rng3 ?_
    | with_reducible refine wi_list ?_
    | with_reducible refine wi_tup ?_
    | with_reducible refine wi_seq ?_
    | with_reducible refine wi_glo ?_
    | with_reducible refine sq_lst ?_
    | with_reducible refine sqb_l ?_
    | with_reducible refine sqb_t ?_
    | with_reducible refine sqb_f ?_
    | with_reducible refine sq_tup ?_
    | with_reducible refine sq_ftup ?_
    | with_reducible refine ws_for ?_
    | ((with_reducible apply o_ixL); first | exact rfl | exact at_zero | exact at_one | exact at_two)
    | ((with_reducible refine And.intro (fun hb => ?_) (fun hb => ?_)) <;> (first | (cases hb; done) | (exact absurd (show false = true from hb) Bool.false_ne_true) | (exact absurd (show true = false from hb) (Ne.symm Bool.false_ne_true)) | (have hz : true = true := hb; clear hz hb) | (have hz : false = false := hb; clear hz hb) | replace hb := of_decide_eq_true hb | replace hb := of_decide_eq_false hb | replace hb := of_decide_eq_true (nt_f hb) | replace hb := of_decide_eq_false (nt_t hb) | replace hb := nt_f hb | replace hb := nt_t hb | skip) <;> (try contradiction)))
  | `(tactic| array_get_dec) => `(tactic| repeat' decreasing_trivial_pre_omega)
namespace K34
open PySem PySem.Spec PyProof.Rows L2 Evl
structure Txt (K : PySem.W.Frag) (mg : Str → Option Value) : Prop where
  b_isinstance : mg "isinstance" = none
  b_int : mg "int" = none
  b_bool : mg "bool" = none
  b_abs : mg "abs" = none
  b_len : mg "len" = none
  b_divmod : mg "divmod" = none
  b_range : mg "range" = none
  b_max : mg "max" = none
  b_min : mg "min" = none
  b_str : mg "str" = none
  b_tuple : mg "tuple" = none
  b_all : mg "all" = none
  b_list : mg "list" = none
  b_sum : mg "sum" = none
  g_LEAST_MANY : ∃ t, mg "LEAST_MANY" = some (.int 3 t)
  g_MOST_MANY : ∃ t, mg "MOST_MANY" = some (.int 256 t)
  g_ODD_SIZES : mg "ODD_SIZES" = some (.ref (He.ga K "ODD_SIZES"))
  g_SIZES : mg "SIZES" = some (.ref (He.ga K "SIZES"))
  t_ODD_SIZES : ∀ H : Hp, SqT K H (He.ga K "ODD_SIZES") [V.int 3, V.int 5, V.int 7]
  t_SIZES : ∀ H : Hp, SqT K H (He.ga K "SIZES") [V.int 2, V.int 3, V.int 5, V.int 7]
abbrev FnP (K : PySem.W.Frag) (x : Str) (st : Stmt) (f : Addr) (fd : FuncData) : Prop := FunD K x x (defArgs st) (defBody st) (defScope st) [] [] f fd
abbrev FnM (K : PySem.W.Frag) (x qual : Str) (st : Stmt) (f : Addr) (fd : FuncData) : Prop := FunD K x qual (defArgs st) (defBody st) (defScope st) [] [] f fd
end K34
namespace K34
open PySem PySem.Spec PyProof.Rows L2 Evl Dl
section
variable {P : Program} {w : World} {K : PySem.W.Frag} {mg : Str → Option Value} {base : Heap} {f : Addr} {fd : FuncData}
theorem ok_l_pool (F : FnP K "_law_pool" s_l_pool f fd) (T : Txt K mg)  : FnOk P w K mg base CX0 1 f fd ["_law_cell_here"] (liftM K sd_pool) := by
  refine F.ok sc_l_pool (fun vs H Q E h => ?_) (fun cdv A outer s H vs Q E hr h => ?_)
  · obtain ⟨A, S, rs, Φ, so, rr, h, _⟩ := h
    obtain ⟨c, rfl, k⟩ := h
    exact (Paired.length rr).symm
  · obtain ⟨A, S, rs, Φ, so, rr, h, q⟩ := h
    obtain ⟨c, rfl, k⟩ := h
    refine ⟨_, PSs.nox (pss_cons (ps_set (i := 1) sc_l_pool.nd rfl (Or.inl rfl) pe_int)
      (pss_cons (ps_if (PW.pt (pw_or (pt_cmpR op_lt (pv 0) pe_int (nomark _)) (pw_or1 (pt_cmpR op_ge (pv 0) (pe_op op_pow pe_int pe_int) (nomark _))))) (pss_one (ps_set (i := 1) sc_l_pool.nd rfl (Or.inl rfl) (pe_callB call_abs (by rfl) T.b_abs (by decide +kernel) (pa_cons (pv 0) pa_nil)))) pss_nil)
      (pss_one (ps_retM (ps_ret (pe_lst (pa_cons (pe_op op_mod (pv 0) pe_int) (pa_cons (pv 1) (pa_cons pe_int pa_nil))))))))), fn_bodyM 1 rfl so rr q ?_⟩
    try dsimp only [cxOf, Cx.nox, Cx.wish]
    have fin : ∀ b : Int, 0 ≤ b → PoolM (.ls [.int (c % 2147483549), .int b, .int 0]) := fun b hb => ⟨_, _, _, rfl, Int.emod_nonneg _ (by decide), Int.emod_lt_of_pos _ (by decide), hb⟩
    array_get_dec
    all_goals exact rm_mu (k _ (fin _ (by omega)))
theorem ok_l_cell (F : FnP K "_law_cell" s_l_cell f fd) (T : Txt K mg)  : FnOk P w K mg base CX0 1 f fd ["_law_script", "_law_k"] (lift K sd_cell) := by
  refine F.ok sc_l_cell (fun vs H Q E h => ?_) (fun cdv A outer s H vs Q E hr h => ?_)
  · obtain ⟨A, S, rs, Φ, so, rr, h, _⟩ := h
    obtain ⟨ns, m, rfl, hk, k⟩ := h
    exact (Paired.length rr).symm
  · obtain ⟨A, S, rs, Φ, so, rr, h, q⟩ := h
    obtain ⟨ns, m, rfl, hk, k⟩ := h
    refine ⟨_, PSs.nox (pss_cons (ps_if (pt_cmpR op_lt (pv 1) (pe_callB call_len_seq (by rfl) T.b_len (by decide +kernel) (pa_cons (pv 0) pa_nil)) (nomark _)) (pss_one (ps_ret (pe_ix ix_list (pv 0) (pv 1) (fun _ _ => rfl)))) pss_nil)
      (pss_cons (ps_set (i := 2) sc_l_cell.nd rfl (Or.inl rfl) (pe_op op_mod (pe_op op_mulW pe_int (pe_op op_add (pe_op op_add (pe_op op_mulW (pv 1) (pv 1)) (pe_op op_mulW pe_int (pv 1))) pe_int)) pe_int))
      (pss_cons (ps_for PassesOwn.never rfl (pi_list (pe_slice sl_list (pv 0) po_none (po_some pe_int))) (pg_name (i := 3) sc_l_cell.nd rfl (Or.inl rfl)) (pss_one (ps_set (i := 2) sc_l_cell.nd rfl (Or.inl rfl) (pe_op op_mod (pe_op op_add (pe_op op_mulW (pv 2) pe_int) (pv 3)) pe_int))))
      (pss_one (ps_ret (pv 2)))))), fn_body 2 rfl so rr q ?_⟩
    try dsimp only [cxOf, Cx.nox, Cx.wish]
    array_get_dec
    · rename_i hb
      rw [List.length_map] at hb
      have hm : m < ns.length := by omega
      exact o_ixFl (d := .int ns[m]) (at_nat (by rw [List.getElem?_map, List.getElem?_eq_getElem hm]; rfl)) (rr_dat (k _))
    · have h1 : (m : Int) * (m : Int) = ((m * m : Nat) : Int) := by simp
      have h2 : m * m ≤ 100 * 100 := Nat.mul_le_mul (by omega) (by omega)
      rw [h1]
      omega
    refine ⟨fun i ρ S' => ∃ (z : Int) (v : Dl.R), ρ = [.dat (.flst (ns.map .int)), .dat (.int (m : Nat)), .dat (.int z), v] ∧ S' = S ∧ 0 ≤ z ∧ z < 2147483549, ⟨_, _, rfl, rfl, Int.emod_nonneg _ (by decide), Int.emod_lt_of_pos _ (by decide)⟩, ⟨?_, ?_⟩⟩
    · rintro i d ρ S' hd ⟨z, v, rfl, rfl, z0, z1⟩
      obtain ⟨u, rfl⟩ : ∃ u, d = .int u := by
        have hm := List.mem_of_getElem? hd
        unfold Dl.cutD at hm
        obtain ⟨u, _, e⟩ := List.mem_map.mp (List.mem_of_mem_drop (List.mem_of_mem_take hm))
        exact ⟨u, e.symm⟩
      array_get_dec
      exact ⟨_, _, rfl, rfl, Int.emod_nonneg _ (by decide), Int.emod_lt_of_pos _ (by decide)⟩
    · rintro ρ S' ⟨z, v, rfl, rfl, z0, z1⟩
      array_get_dec
      exact rr_dat (k _)
theorem ok_l_take (F : FnP K "_law_take" s_l_take f fd) (T : Txt K mg)  : FnOk P w K mg base CX0 1 f fd ["_law_pool_here", "_law_many_here"] (lift K sd_take) := by
  refine F.ok sc_l_take (fun vs H Q E h => ?_) (fun cdv A outer s H vs Q E hr h => ?_)
  · obtain ⟨A, S, rs, Φ, so, rr, h, _⟩ := h
    obtain ⟨k, m, rfl, m0, m1, ⟨_, ⟨a, b, c, rfl, a0, a1, b0⟩, hk⟩, q1⟩ := h
    exact (Paired.length rr).symm
  · obtain ⟨A, S, rs, Φ, so, rr, h, q⟩ := h
    obtain ⟨k, m, rfl, m0, m1, ⟨_, ⟨a, b, c, rfl, a0, a1, b0⟩, hk⟩, q1⟩ := h
    refine ⟨_, PSs.nox (pss_cons (ps_asg (pe_op op_add (pe_ix ix_list (pv 0) pe_int (fun _ _ => rfl)) pe_int) (pg_sub (pv 0) pe_int set_list))
      (pss_cons (ps_set (i := 2) sc_l_take.nd rfl (Or.inl rfl) (pe_ix ix_list (pv 0) pe_int (fun _ _ => rfl)))
      (pss_cons (ps_asg (pe_op op_mod (pe_op op_add (pe_op op_mulW (pv 2) (pe_op op_add (pe_op op_mod (pv 2) pe_int) pe_int)) (pe_op op_mul pe_int (pe_ix ix_list (pv 0) pe_int (fun _ _ => rfl)))) pe_int) (pg_sub (pv 0) pe_int set_list))
      (pss_cons (ps_if (pt_cmpR op_gt (pe_ix ix_list (pv 0) pe_int (fun _ _ => rfl)) pe_int (nomark _)) (pss_cons (ps_asg (pe_callB call_divmod (by rfl) T.b_divmod (by decide +kernel) (pa_cons (pe_ix ix_list (pv 0) pe_int (fun _ _ => rfl)) (pa_cons (pv 1) pa_nil))) (pg_tup rfl (pgs_cons (pg_sub (pv 0) pe_int set_list) (pgs_cons (pg_name (i := 3) sc_l_take.nd rfl (Or.inl rfl)) pgs_nil))))
        (pss_one (ps_ret (pv 3)))) pss_nil)
      (pss_one (ps_ret (pe_op op_mod (pe_op op_fdivW (pe_ix ix_list (pv 0) pe_int (fun _ _ => rfl)) pe_int) (pv 1)))))))), fn_body 2 rfl so rr q ?_⟩
    try dsimp only [cxOf, Cx.nox, Cx.wish]
    have lk : k < S.length := (List.getElem?_eq_some_iff.mp hk).1
    have n0 : 0 ≤ a % 47017 := Int.emod_nonneg _ (by decide)
    have n1 : a % 47017 < 47017 := Int.emod_lt_of_pos _ (by decide)
    array_get_dec
    refine o_ixM hk rfl ?_
    array_get_dec
    refine ⟨k, _, 2, _, rfl, rfl, rfl, hk, (by show 2 < 3; decide), ?_⟩
    have hk1 : (S.set k (.ls [.int a, .int b, .int (c + 1)]))[k]? = some (.ls [.int a, .int b, .int (c + 1)]) := List.getElem?_set_self lk
    array_get_dec
    refine o_ixM hk1 rfl ?_
    array_get_dec
    refine o_ixM hk1 rfl ?_
    refine o_Ci (.inl ⟨by decide, by decide⟩) ?_
    array_get_dec
    refine ⟨k, _, 0, _, rfl, rfl, rfl, hk1, (by show 0 < 3; decide), ?_⟩
    have z0 := Int.emod_nonneg (a * (a % 47017 + 31013) + 90001 * (c + 1)) (show (2147483549 : Int) ≠ 0 by decide)
    have z1 := Int.emod_lt_of_pos (a * (a % 47017 + 31013) + 90001 * (c + 1)) (show (0 : Int) < 2147483549 by decide)
    rw [List.set_set]
    show WpS K _ _ (S.set k (.ls [.int ((a * (a % 47017 + 31013) + 90001 * (c + 1)) % 2147483549), .int b, .int (c + 1)])) _ _ _ _
    generalize (a * (a % 47017 + 31013) + 90001 * (c + 1)) % 2147483549 = z at *
    have hk2 : (S.set k (.ls [.int z, .int b, .int (c + 1)]))[k]? = some (.ls [.int z, .int b, .int (c + 1)]) := List.getElem?_set_self lk
    have fin : ∀ (d z b c : Int), 0 ≤ d → d < m → 0 ≤ z → z < 2147483549 → 0 ≤ b → retR Φ S.length (.dat (.int d)) (S.set k (.ls [.int z, .int b, .int c])) := fun d z b c d0 d1 z0 z1 b0 => rr_len (List.length_set ..) (q1 d _ d0 d1 ⟨_, ⟨z, b, c, rfl, z0, z1, b0⟩, rfl⟩)
    array_get_dec
    refine o_ixM hk2 rfl ?_
    array_get_dec
    · refine o_ixM hk2 rfl ?_
      array_get_dec
      refine c_divmod ⟨m0, m1⟩ ?_
      array_get_dec
      refine ⟨k, _, 1, _, rfl, rfl, rfl, hk2, (by show 1 < 3; decide), ?_⟩
      rw [List.set_set]
      array_get_dec
      exact fin _ _ _ _ (Int.emod_nonneg _ (by omega)) (Int.emod_lt_of_pos _ m0) z0 z1 (Int.ediv_nonneg b0 (by omega))
    · refine o_ixM hk2 rfl ?_
      array_get_dec
      exact fin _ _ _ _ (Int.emod_nonneg _ (by omega)) (Int.emod_lt_of_pos _ m0) z0 z1 b0
end
end K34

namespace K34
open PySem PySem.Spec PyProof.Rows L2 Evl Dl
def sd_is_whole : Sd := fun rs S Φ => ∃ d, rs = [.dat d] ∧ Ck.pd d = true ∧ Φ (.bl (Ck.isWh d)) S
theorem is_whole_go {d : D} {S : Store} {Φ : D → Store → Prop} (h : Ck.pd d = true) (k : Φ (.bl (Ck.isWh d)) S) : sd_is_whole [.dat d] S Φ := ⟨d, rfl, h, k⟩
theorem isWh_eq (d : D) : Ck.isWh d = (d.isInt && !d.isBool) := by cases d <;> rfl
def manyB (d : D) : Bool := Ck.isWh d && Ck.isMany (Ck.intOf d)
def sd_is_many : Sd := fun rs S Φ => ∃ d, rs = [.dat d] ∧ Ck.pd d = true ∧ Φ (.bl (manyB d)) S
theorem is_many_go {d : D} {S : Store} {Φ : D → Store → Prop} (h : Ck.pd d = true) (k : Φ (.bl (manyB d)) S) : sd_is_many [.dat d] S Φ := ⟨d, rfl, h, k⟩
theorem wh_cases (d : D) : (∃ i, d = .int i) ∨ Ck.isWh d = false := by cases d <;> first | exact .inl ⟨_, rfl⟩ | exact .inr rfl
def placeB (d : D) (n : Int) : Bool := Ck.isWh d && (decide (0 ≤ Ck.intOf d) && decide (Ck.intOf d < n))
def sd_is_place : Sd := fun rs S Φ => ∃ d n, rs = [.dat d, .dat (.int n)] ∧ Ck.pd d = true ∧ Φ (.bl (placeB d n)) S
theorem is_place_go {d : D} {n : Int} {S : Store} {Φ : D → Store → Prop} (h : Ck.pd d = true) (k : Φ (.bl (placeB d n)) S) : sd_is_place [.dat d, .dat (.int n)] S Φ := ⟨d, n, rfl, h, k⟩
section
variable {P : Program} {w : World} {K : PySem.W.Frag} {mg : Str → Option Value} {base : Heap} {f : Addr} {fd : FuncData}
theorem ok_is_whole (F : FnP K "is_whole" s_is_whole f fd) (T : Txt K mg)  : FnOk P w K mg base CX0 1 f fd ["thing"] (lift K sd_is_whole) := by
  refine F.ok sc_is_whole (fun vs H Q E h => ?_) (fun cdv A outer s H vs Q E hr h => ?_)
  · obtain ⟨A, S, rs, Φ, so, rr, h, _⟩ := h
    obtain ⟨d, rfl, hp, k⟩ := h
    exact (Paired.length rr).symm
  · obtain ⟨A, S, rs, Φ, so, rr, h, q⟩ := h
    obtain ⟨d, rfl, hp, k⟩ := h
    refine ⟨_, PSs.nox (pss_one (ps_ret (pe_and (pe_callB call_isi (by rfl) T.b_isinstance (by decide +kernel) (pa_cons (pv 0) (pa_cons (pe_bltn (v := .ty "int") (by rfl) T.b_int (by decide +kernel) rfl) pa_nil))) (pe_one (pe_not (pe_callB call_isi (by rfl) T.b_isinstance (by decide +kernel) (pa_cons (pv 0) (pa_cons (pe_bltn (v := .ty "bool") (by rfl) T.b_bool (by decide +kernel) rfl) pa_nil)))))))), fn_body 0 rfl so rr q ?_⟩
    try dsimp only [cxOf, Cx.nox, Cx.wish]
    have pl := Ck.pd_Pl hp
    rw [isWh_eq] at k
    array_get_dec
    · rename_i hb
      rw [hb] at k
      exact rr_dat k
    · rename_i hb
      rw [hb] at k
      exact rr_dat k
theorem ok_is_many (F : FnP K "is_many" s_is_many f fd) (T : Txt K mg) (D_is_whole : Dn P w K mg base 1 "is_whole" ["thing"] (lift K sd_is_whole)) : FnOk P w K mg base CX0 2 f fd ["thing"] (lift K sd_is_many) := by
  refine F.ok sc_is_many (fun vs H Q E h => ?_) (fun cdv A outer s H vs Q E hr h => ?_)
  · obtain ⟨A, S, rs, Φ, so, rr, h, _⟩ := h
    obtain ⟨d, rfl, hp, k⟩ := h
    exact (Paired.length rr).symm
  · obtain ⟨A, S, rs, Φ, so, rr, h, q⟩ := h
    obtain ⟨d, rfl, hp, k⟩ := h
    refine ⟨_, PSs.nox (pss_cons (ps_if (PW.pt (pw_or (pt_not (pt_val (pe_cd D_is_whole (hr.mono (by decide)) (by rfl) (pa_cons (pv 0) pa_nil)))) (pw_or (pt_cmpR op_lt (pv 0) (pe_gi (by rfl) T.g_LEAST_MANY) (nomark _)) (pw_or1 (pt_cmpR op_gt (pv 0) (pe_gi (by rfl) T.g_MOST_MANY) (nomark _)))))) (pss_one (ps_ret pe_bl)) pss_nil)
      (pss_cons (ps_set (i := 1) sc_is_many.nd rfl (Or.inl rfl) (pv 0))
      (pss_cons (ps_while PassesOwn.never (pt_cmpR op_eq (pe_op op_mod (pv 1) pe_int) pe_int (nomark _)) (pss_one (ps_aug (i := 1) sc_is_many.nd rfl (Or.inl rfl) pe_int iop_fdiv)))
      (pss_one (ps_ret (pe_or (pe_cmpR op_eq (pv 1) pe_int (nomark _)) (pe_one (pe_cmpR op_in_seq (pv 1) (pe_glob (v := .ref (He.ga K "ODD_SIZES")) (by rfl) T.g_ODD_SIZES rfl) (by rfl))))))))), fn_body 1 rfl so rr q ?_⟩
    try dsimp only [cxOf, Cx.nox, Cx.wish]
    rcases wh_cases d with ⟨i, rfl⟩ | hw
    · have k1 : Φ (.bl (Ck.isMany i)) S := k
      array_get_dec
      refine is_whole_go rfl ?_
      array_get_dec
      · rename_i hb
        have e : Ck.isMany i = false := by
          unfold Ck.isMany
          rw [decide_eq_false (p := 3 ≤ i) (by omega)]
          rfl
        rw [e] at k1
        exact rr_dat k1
      · rename_i h1 h2
        have e : Ck.isMany i = false := by
          unfold Ck.isMany
          rw [decide_eq_false (p := i ≤ 256) (by omega), Bool.and_false]
          rfl
        rw [e] at k1
        exact rr_dat k1
      · rename_i h1 h2
        obtain ⟨n, rfl⟩ := Int.eq_ofNat_of_zero_le (show 0 ≤ i by omega)
        refine ws_while (fun m ρ S' => ∃ l : Nat, ρ = [.dat (.int (n : Nat)), .dat (.int (l : Nat))] ∧ S' = S ∧ 0 < l ∧ Ck.oddp l = Ck.oddp n ∧ m = l) n ⟨n, rfl, rfl, by omega, rfl, rfl⟩ ?_
        rintro m ρ S' ⟨l, rfl, rfl, l0, eo, rfl⟩
        array_get_dec
        · rename_i hb
          refine ⟨m / 2, by omega, m / 2, rfl, rfl, by omega, ?_, rfl⟩
          rw [← Ck.oddp_even (by omega) l0]
          exact eo
        · rename_i hb h
          have el : Ck.oddp n = 1 := by
            rw [← eo, Ck.oddp_odd (by omega)]
            omega
          unfold Ck.isMany at k1
          rw [decide_eq_true (p := 3 ≤ (n : Int)) (by omega), decide_eq_true (p := (n : Int) ≤ 256) (by omega), Int.toNat_natCast, el] at k1
          exact rr_dat k1
        · rename_i hb h
          have el : Ck.oddp n = m := by
            rw [← eo, Ck.oddp_odd (by omega)]
          refine o_inK (ns := [3, 5, 7]) T.t_ODD_SIZES ?_
          unfold Ck.isMany at k1
          rw [decide_eq_true (p := 3 ≤ (n : Int)) (by omega), decide_eq_true (p := (n : Int) ≤ 256) (by omega), Int.toNat_natCast, el, decide_eq_false (p := m = 1) (by omega)] at k1
          have e : (if false = true then !List.contains [3, 5, 7] (m : Int) else List.contains [3, 5, 7] (m : Int)) = ((true && true) && (false || (decide (m = 3) || (decide (m = 5) || decide (m = 7))))) := by
            rw [if_neg Bool.false_ne_true, Bool.eq_iff_iff]
            simp
            omega
          rw [e]
          exact rr_dat k1
    · have e : manyB d = false := by
        unfold manyB
        rw [hw]
        rfl
      rw [e] at k
      array_get_dec
      refine is_whole_go hp ?_
      rw [hw]
      array_get_dec
      exact rr_dat k
theorem ok_is_place (F : FnP K "is_place" s_is_place f fd) (T : Txt K mg) (D_is_whole : Dn P w K mg base 1 "is_whole" ["thing"] (lift K sd_is_whole)) : FnOk P w K mg base CX0 2 f fd ["thing", "many"] (lift K sd_is_place) := by
  refine F.ok sc_is_place (fun vs H Q E h => ?_) (fun cdv A outer s H vs Q E hr h => ?_)
  · obtain ⟨A, S, rs, Φ, so, rr, h, _⟩ := h
    obtain ⟨d, n, rfl, hp, k⟩ := h
    exact (Paired.length rr).symm
  · obtain ⟨A, S, rs, Φ, so, rr, h, q⟩ := h
    obtain ⟨d, n, rfl, hp, k⟩ := h
    refine ⟨_, PSs.nox (pss_one (ps_ret (pe_and (pe_cd D_is_whole (hr.mono (by decide)) (by rfl) (pa_cons (pv 0) pa_nil)) (pe_one (pe_chain op_le op_lt pe_int (pv 0) (pv 1)))))), fn_body 0 rfl so rr q ?_⟩
    try dsimp only [cxOf, Cx.nox, Cx.wish]
    rcases wh_cases d with ⟨i, rfl⟩ | hw
    · have k1 : Φ (.bl (decide (0 ≤ i) && decide (i < n))) S := k
      array_get_dec
      refine is_whole_go rfl ?_
      array_get_dec
      · rename_i h1
        rw [decide_eq_true (p := 0 ≤ i) (by omega)] at k1
        exact rr_dat k1
      · rename_i h1
        rw [decide_eq_false (p := 0 ≤ i) (by omega)] at k1
        exact rr_dat k1
    · have e : placeB d n = false := by
        unfold placeB
        rw [hw]
        rfl
      rw [e] at k
      array_get_dec
      refine is_whole_go hp ?_
      rw [hw]
      array_get_dec
      exact rr_dat k
end
end K34

namespace K34
open PySem PySem.Spec PyProof.Rows L2 Evl Dl
theorem tup_cases (d : D) : (∃ ds, Ck.items d = some ds ∧ (d = .tup ds ∨ d = .ftup ds)) ∨ (Ck.items d = none ∧ d.isTup = false) := by
  cases d <;> first | exact .inl ⟨_, rfl, .inl rfl⟩ | exact .inl ⟨_, rfl, .inr rfl⟩ | exact .inr ⟨rfl, rfl⟩
theorem plain1 {K : PySem.W.Frag} {A : List Addr} {S : Store} {H : Hp} {d : D} {ds : List D} {rs : List Dl.R} {vs : List V} (h : d = .tup ds ∨ d = .ftup ds) (r : RepRs K A S H (.dat d :: rs) vs) : RepRs K A S H (.dat (.tup ds) :: rs) vs := by
  cases r with
  | cons a b => exact .cons (rep_plain h a) b
theorem plain2 {K : PySem.W.Frag} {A : List Addr} {S : Store} {H : Hp} {x : Dl.R} {d : D} {ds : List D} {rs : List Dl.R} {vs : List V} (h : d = .tup ds ∨ d = .ftup ds) (r : RepRs K A S H (x :: .dat d :: rs) vs) : RepRs K A S H (x :: .dat (.tup ds) :: rs) vs := by
  cases r with
  | cons a b => exact .cons a (plain1 h b)
theorem pd_items {d : D} {ds : List D} (h : Ck.pd d = true) (e : d = .tup ds ∨ d = .ftup ds) : ∀ x ∈ ds, Ck.pd x = true := by
  rcases e with rfl | rfl <;> (rw [Ck.pd] at h; exact Ck.pdL_all.mp h)
def sd_are_lengths : Sd := fun rs S Φ => ∃ d, rs = [.dat d] ∧ Ck.pd d = true ∧ Φ (.bl (Ck.lensB d)) S
theorem are_lengths_go {d : D} {S : Store} {Φ : D → Store → Prop} (h : Ck.pd d = true) (k : Φ (.bl (Ck.lensB d)) S) : sd_are_lengths [.dat d] S Φ := ⟨d, rfl, h, k⟩
def sd_is_ring : Sd := fun rs S Φ => ∃ d n, rs = [.dat d, .dat (.int n)] ∧ Ck.pd d = true ∧ (0 < n ∧ n ≤ 1000) ∧ Φ (.bl (Ck.ringB n d)) S
theorem is_ring_go {d : D} {n : Int} {S : Store} {Φ : D → Store → Prop} (h : Ck.pd d = true) (h0 : 0 < n ∧ n ≤ 1000) (k : Φ (.bl (Ck.ringB n d)) S) : sd_is_ring [.dat d, .dat (.int n)] S Φ := ⟨d, n, rfl, h, h0, k⟩
/-- tuples of not too many things -/
def few (d : D) : Prop := ∀ ds, Ck.items d = some ds → ds.length < 100000
def sd_are_rings : Sd := fun rs S Φ => ∃ d n, rs = [.dat d, .dat (.int n)] ∧ Ck.pd d = true ∧ few d ∧ (0 < n ∧ n ≤ 1000) ∧ Φ (.bl (Ck.ringsB n d)) S
theorem are_rings_go {d : D} {n : Int} {S : Store} {Φ : D → Store → Prop} (h : Ck.pd d = true) (hf : few d) (h0 : 0 < n ∧ n ≤ 1000) (k : Φ (.bl (Ck.ringsB n d)) S) : sd_are_rings [.dat d, .dat (.int n)] S Φ := ⟨d, n, rfl, h, hf, h0, k⟩
theorem many_le {n : Int} (h : Ck.isMany n = true) : 3 ≤ n ∧ n ≤ 256 := by
  unfold Ck.isMany at h
  rw [Bool.and_eq_true, Bool.and_eq_true] at h
  exact ⟨of_decide_eq_true h.1.1, of_decide_eq_true h.1.2⟩
theorem map_all (ds : List D) (p : D → Bool) : (ds.map p).all id = ds.all p := by
  induction ds with
  | nil => rfl
  | cons d ds ih => rw [List.map_cons, List.all_cons, List.all_cons, ih]; rfl
section
variable {P : Program} {w : World} {K : PySem.W.Frag} {mg : Str → Option Value} {base : Heap} {f : Addr} {fd : FuncData}
theorem ok_are_lengths (F : FnP K "are_lengths" s_are_lengths f fd) (T : Txt K mg) (D_is_whole : Dn P w K mg base 1 "is_whole" ["thing"] (lift K sd_is_whole)) (D_is_many : Dn P w K mg base 2 "is_many" ["thing"] (lift K sd_is_many)) : FnOk P w K mg base CX0 3 f fd ["thing"] (lift K sd_are_lengths) := by
  refine F.ok sc_are_lengths (fun vs H Q E h => ?_) (fun cdv A outer s H vs Q E hr h => ?_)
  · obtain ⟨A, S, rs, Φ, so, rr, h, _⟩ := h
    obtain ⟨d, rfl, hp, k⟩ := h
    exact (Paired.length rr).symm
  · obtain ⟨A, S, rs, Φ, so, rr, h, q⟩ := h
    obtain ⟨d, rfl, hp, k⟩ := h
    rcases tup_cases d with ⟨ds, hi, ht⟩ | ⟨hi, hn⟩
    · have k1 : Φ (.bl (Ck.isMany (ds.length : Nat) && ds.all Ck.isWh)) S := by
        unfold Ck.lensB at k
        rw [hi] at k
        exact k
      replace rr := plain1 ht rr
      have pi := pd_items hp ht
      refine ⟨_, PSs.nox (pss_one (ps_ret (pe_and (pe_callB call_isi (by rfl) T.b_isinstance (by decide +kernel) (pa_cons (pv 0) (pa_cons (pe_bltn (v := .ty "tuple") (by rfl) T.b_tuple (by decide +kernel) rfl) pa_nil))) (pe_and (pe_cd D_is_many (hr.mono (by decide)) (by rfl) (pa_cons (pe_callB call_len_seq (by rfl) T.b_len (by decide +kernel) (pa_cons (pv 0) pa_nil)) pa_nil)) (pe_one (pe_callB (cr_all rfl) (by rfl) T.b_all (by decide +kernel) (pa_cons (pe_lc (own := [("length", 1)]) (g := (gName 1)) (tt := tYes) rfl sc_are_lengths.nd (pi_tup (pv 0)) (blkOk_by (own := [("length", 1)]) (N := ["thing", "length"]) (sc := defScope s_are_lengths) (by decide +kernel)) (fun _ _ _ _ _ => (pg_name (i := 1) sc_are_lengths.nd rfl (Or.inl rfl))) (fun _ _ _ _ _ => pts_nil) (fun _ _ _ _ _ => (pe_cd D_is_whole (hr.mono (by decide)) (by rfl) (pa_cons (pv 1) pa_nil)))) pa_nil))))))), fn_body 1 rfl so rr q ?_⟩
      try dsimp only [cxOf, Cx.nox, Cx.wish]
      array_get_dec
      refine is_many_go rfl ?_
      array_get_dec
      · rename_i hb
        have hb : Ck.isMany (ds.length : Nat) = true := hb
        have hl := many_le hb
        refine wp_lcM ?_
        array_get_dec
        refine ⟨ds.map fun d => .bl (Ck.isWh d), by simp, by omega, fun i d e S0 hd he => gc_name (by decide) fun Φ k => ?_, ?_⟩
        · rw [List.getElem?_map, hd] at he
          cases he
          array_get_dec
          exact is_whole_go (pi d (List.mem_of_getElem? hd)) k
        · array_get_dec
          refine c_all (bs := ds.map Ck.isWh) (by rw [List.map_map]; rfl) ?_
          rw [map_all]
          rw [hb] at k1
          exact rr_dat k1
      · rename_i hb
        have hb : Ck.isMany (ds.length : Nat) = false := hb
        rw [hb] at k1
        exact rr_dat k1
    · have pl := Ck.pd_Pl hp
      unfold Ck.lensB at k
      rw [hi] at k
      refine ⟨_, PSs.nox (pss_one (ps_ret (pe_and (pe_callB call_isi (by rfl) T.b_isinstance (by decide +kernel) (pa_cons (pv 0) (pa_cons (pe_bltn (v := .ty "tuple") (by rfl) T.b_tuple (by decide +kernel) rfl) pa_nil))) (pe_and (pe_cd D_is_many (hr.mono (by decide)) (by rfl) (pa_cons (pe_callB call_len_seq (by rfl) T.b_len (by decide +kernel) (pa_cons (pv 0) pa_nil)) pa_nil)) (pe_one (pe_callB (cr_all rfl) (by rfl) T.b_all (by decide +kernel) (pa_cons (pe_lc (own := [("length", 1)]) (g := (gName 1)) (tt := tYes) rfl sc_are_lengths.nd (pi_tup (pv 0)) (blkOk_by (own := [("length", 1)]) (N := ["thing", "length"]) (sc := defScope s_are_lengths) (by decide +kernel)) (fun _ _ _ _ _ => (pg_name (i := 1) sc_are_lengths.nd rfl (Or.inl rfl))) (fun _ _ _ _ _ => pts_nil) (fun _ _ _ _ _ => (pe_cd D_is_whole (hr.mono (by decide)) (by rfl) (pa_cons (pv 1) pa_nil)))) pa_nil))))))), fn_body 1 rfl so rr q ?_⟩
      try dsimp only [cxOf, Cx.nox, Cx.wish]
      array_get_dec
      · rename_i hb
        rw [hn] at hb
        cases hb
      · exact rr_dat k
theorem ok_is_ring (F : FnP K "is_ring" s_is_ring f fd) (T : Txt K mg) (D_is_whole : Dn P w K mg base 1 "is_whole" ["thing"] (lift K sd_is_whole)) (D_is_place : Dn P w K mg base 2 "is_place" ["thing", "many"] (lift K sd_is_place)) : FnOk P w K mg base CX0 3 f fd ["thing", "many"] (lift K sd_is_ring) := by
  refine F.ok sc_is_ring (fun vs H Q E h => ?_) (fun cdv A outer s H vs Q E hr h => ?_)
  · obtain ⟨A, S, rs, Φ, so, rr, h, _⟩ := h
    obtain ⟨d, n, rfl, hp, n0, k⟩ := h
    exact (Paired.length rr).symm
  · obtain ⟨A, S, rs, Φ, so, rr, h, q⟩ := h
    obtain ⟨d, n, rfl, hp, n0, k⟩ := h
    rcases tup_cases d with ⟨ds, hi, ht⟩ | ⟨hi, hn⟩
    · replace rr := plain1 ht rr
      have pi := pd_items hp ht
      unfold Ck.ringB at k
      rw [hi] at k
      by_cases hl : ds.length = 3
      · obtain ⟨a, b, c, rfl⟩ : ∃ a b c, ds = [a, b, c] := by
          match ds, hl with
          | [a, b, c], _ => exact ⟨a, b, c, rfl⟩
        have pa := pi a (by simp)
        have pb := pi b (by simp)
        have pc := pi c (by simp)
        have k1 : Φ (.bl ((Ck.isWh a && (Ck.isWh b && Ck.isWh c)) && ((decide (Ck.intOf b = 2) || (decide (Ck.intOf b = 3) || (decide (Ck.intOf b = 5) || decide (Ck.intOf b = 7)))) && (decide (n % Ck.intOf b = 0) && ((decide (0 ≤ Ck.intOf a) && decide (Ck.intOf a < n / Ck.intOf b)) && !decide (Ck.intOf c = 0)))))) S := k
        clear k
        rcases wh_cases b with ⟨z, rfl⟩ | hw
        · have eb : (decide (z = 2) || (decide (z = 3) || (decide (z = 5) || decide (z = 7)))) = [2, 3, 5, 7].contains z := by
            rw [Bool.eq_iff_iff]
            simp
          have k1 : Φ (.bl ((Ck.isWh a && (true && Ck.isWh c)) && ([2, 3, 5, 7].contains z && (decide (n % z = 0) && ((decide (0 ≤ Ck.intOf a) && decide (Ck.intOf a < n / z)) && !decide (Ck.intOf c = 0)))))) S := eb ▸ k1
          refine ⟨_, PSs.nox (pss_cons (ps_if (PW.pt (pw_or (pt_not (pt_val (pe_callB call_isi (by rfl) T.b_isinstance (by decide +kernel) (pa_cons (pv 0) (pa_cons (pe_bltn (v := .ty "tuple") (by rfl) T.b_tuple (by decide +kernel) rfl) pa_nil))))) (pw_or1 (pt_cmpR op_ne (pe_callB call_len_seq (by rfl) T.b_len (by decide +kernel) (pa_cons (pv 0) pa_nil)) pe_int (nomark _))))) (pss_one (ps_ret pe_bl)) pss_nil)
      (pss_cons (ps_asg (pv 0) (pg_tup rfl (pgs_cons (pg_name (i := 2) sc_is_ring.nd rfl (Or.inl rfl)) (pgs_cons (pg_name (i := 3) sc_is_ring.nd rfl (Or.inl rfl)) (pgs_cons (pg_name (i := 4) sc_is_ring.nd rfl (Or.inl rfl)) pgs_nil)))))
      (pss_cons (ps_if (PW.pt (pw_or (pt_not (pt_val (pe_cd D_is_whole (hr.mono (by decide)) (by rfl) (pa_cons (pv 3) pa_nil)))) (pw_or (pt_cmpR op_notIn_seq (pv 3) (pe_glob (v := .ref (He.ga K "SIZES")) (by rfl) T.g_SIZES rfl) (by rfl)) (pw_or1 (pt_cmpR op_ne (pe_op op_mod (pv 1) (pv 3)) pe_int (nomark _)))))) (pss_one (ps_ret pe_bl)) pss_nil)
      (pss_one (ps_ret (pe_and (pe_cd D_is_place (hr.mono (by decide)) (by rfl) (pa_cons (pv 2) (pa_cons (pe_op op_fdivW (pv 1) (pv 3)) pa_nil))) (pe_and (pe_cd D_is_whole (hr.mono (by decide)) (by rfl) (pa_cons (pv 4) pa_nil)) (pe_one (pe_cmpR op_ne (pv 4) pe_int (nomark _)))))))))), fn_body 3 rfl so rr q ?_⟩
          try dsimp only [cxOf, Cx.nox, Cx.wish]
          array_get_dec
          refine is_whole_go rfl ?_
          array_get_dec
          refine o_inK (ns := [2, 3, 5, 7]) T.t_SIZES ?_
          have ei : (if true = true then !List.contains [2, 3, 5, 7] z else List.contains [2, 3, 5, 7] z) = !List.contains [2, 3, 5, 7] z := rfl
          rw [ei]
          array_get_dec
          · rename_i hb
            rw [hb, Bool.false_and, Bool.and_false] at k1
            exact rr_dat k1
          · rename_i hb
            have hz : z = 2 ∨ z = 3 ∨ z = 5 ∨ z = 7 := by simpa using hb
            refine o_mod (by omega) ?_
            array_get_dec
            · rename_i hm
              rw [decide_eq_false hm, Bool.false_and, Bool.and_false, Bool.and_false] at k1
              exact rr_dat k1
            · rename_i hm
              rw [hb, decide_eq_true hm] at k1
              refine is_place_go pa ?_
              unfold placeB
              array_get_dec
              · rename_i hp
                rw [Bool.and_eq_true] at hp
                rw [hp.1, hp.2] at k1
                refine is_whole_go pc ?_
                array_get_dec
                · rename_i hc
                  rcases wh_cases c with ⟨t, rfl⟩ | hw
                  · array_get_dec
                    exact rr_dat k1
                  · rw [hw] at hc
                    cases hc
                · rename_i hc
                  rw [hc] at k1
                  exact rr_dat k1
              · rename_i hp
                have e : ((Ck.isWh a && (true && Ck.isWh c)) && (true && (true && ((decide (0 ≤ Ck.intOf a) && decide (Ck.intOf a < n / z)) && !decide (Ck.intOf c = 0))))) = false := by
                  cases h1 : Ck.isWh a with
                  | false => rfl
                  | true =>
                    rw [h1, Bool.true_and] at hp
                    rw [hp]
                    simp
                rw [e] at k1
                exact rr_dat k1
        · rw [hw, Bool.false_and, Bool.and_false, Bool.false_and] at k1
          refine ⟨_, PSs.nox (pss_cons (ps_if (PW.pt (pw_or (pt_not (pt_val (pe_callB call_isi (by rfl) T.b_isinstance (by decide +kernel) (pa_cons (pv 0) (pa_cons (pe_bltn (v := .ty "tuple") (by rfl) T.b_tuple (by decide +kernel) rfl) pa_nil))))) (pw_or1 (pt_cmpR op_ne (pe_callB call_len_seq (by rfl) T.b_len (by decide +kernel) (pa_cons (pv 0) pa_nil)) pe_int (nomark _))))) (pss_one (ps_ret pe_bl)) pss_nil)
      (pss_cons (ps_asg (pv 0) (pg_tup rfl (pgs_cons (pg_name (i := 2) sc_is_ring.nd rfl (Or.inl rfl)) (pgs_cons (pg_name (i := 3) sc_is_ring.nd rfl (Or.inl rfl)) (pgs_cons (pg_name (i := 4) sc_is_ring.nd rfl (Or.inl rfl)) pgs_nil)))))
      (pss_cons (ps_if (PW.pt (pw_or (pt_not (pt_val (pe_cd D_is_whole (hr.mono (by decide)) (by rfl) (pa_cons (pv 3) pa_nil)))) (pw_or (pt_cmpR op_notIn_seq (pv 3) (pe_glob (v := .ref (He.ga K "SIZES")) (by rfl) T.g_SIZES rfl) (by rfl)) (pw_or1 (pt_cmpR op_ne (pe_op op_mod (pv 1) (pv 3)) pe_int (nomark _)))))) (pss_one (ps_ret pe_bl)) pss_nil)
      (pss_one (ps_ret (pe_and (pe_cd D_is_place (hr.mono (by decide)) (by rfl) (pa_cons (pv 2) (pa_cons (pe_op op_fdivW (pv 1) (pv 3)) pa_nil))) (pe_and (pe_cd D_is_whole (hr.mono (by decide)) (by rfl) (pa_cons (pv 4) pa_nil)) (pe_one (pe_cmpR op_ne (pv 4) pe_int (nomark _)))))))))), fn_body 3 rfl so rr q ?_⟩
          try dsimp only [cxOf, Cx.nox, Cx.wish]
          array_get_dec
          refine is_whole_go pb ?_
          rw [hw]
          array_get_dec
          exact rr_dat k1
      · have k1 : Φ (.bl false) S := by
          match ds, hl, k with
          | [], _, k => exact k
          | [_], _, k => exact k
          | [_, _], _, k => exact k
          | [_, _, _], h, _ => exact absurd rfl h
          | _ :: _ :: _ :: _ :: _, _, k => exact k
        refine ⟨_, PSs.nox (pss_cons (ps_if (PW.pt (pw_or (pt_not (pt_val (pe_callB call_isi (by rfl) T.b_isinstance (by decide +kernel) (pa_cons (pv 0) (pa_cons (pe_bltn (v := .ty "tuple") (by rfl) T.b_tuple (by decide +kernel) rfl) pa_nil))))) (pw_or1 (pt_cmpR op_ne (pe_callB call_len_seq (by rfl) T.b_len (by decide +kernel) (pa_cons (pv 0) pa_nil)) pe_int (nomark _))))) (pss_one (ps_ret pe_bl)) pss_nil)
      (pss_cons (ps_asg (pv 0) (pg_tup rfl (pgs_cons (pg_name (i := 2) sc_is_ring.nd rfl (Or.inl rfl)) (pgs_cons (pg_name (i := 3) sc_is_ring.nd rfl (Or.inl rfl)) (pgs_cons (pg_name (i := 4) sc_is_ring.nd rfl (Or.inl rfl)) pgs_nil)))))
      (pss_cons (ps_if (PW.pt (pw_or (pt_not (pt_val (pe_cd D_is_whole (hr.mono (by decide)) (by rfl) (pa_cons (pv 3) pa_nil)))) (pw_or (pt_cmpR op_notIn_seq (pv 3) (pe_glob (v := .ref (He.ga K "SIZES")) (by rfl) T.g_SIZES rfl) (by rfl)) (pw_or1 (pt_cmpR op_ne (pe_op op_mod (pv 1) (pv 3)) pe_int (nomark _)))))) (pss_one (ps_ret pe_bl)) pss_nil)
      (pss_one (ps_ret (pe_and (pe_cd D_is_place (hr.mono (by decide)) (by rfl) (pa_cons (pv 2) (pa_cons (pe_op op_fdivW (pv 1) (pv 3)) pa_nil))) (pe_and (pe_cd D_is_whole (hr.mono (by decide)) (by rfl) (pa_cons (pv 4) pa_nil)) (pe_one (pe_cmpR op_ne (pv 4) pe_int (nomark _)))))))))), fn_body 3 rfl so rr q ?_⟩
        try dsimp only [cxOf, Cx.nox, Cx.wish]
        array_get_dec
        · exact rr_dat k1
        · rename_i hb
          omega
    · have pl := Ck.pd_Pl hp
      unfold Ck.ringB at k
      rw [hi] at k
      refine ⟨_, PSs.nox (pss_cons (ps_if (PW.pt (pw_or (pt_not (pt_val (pe_callB call_isi (by rfl) T.b_isinstance (by decide +kernel) (pa_cons (pv 0) (pa_cons (pe_bltn (v := .ty "tuple") (by rfl) T.b_tuple (by decide +kernel) rfl) pa_nil))))) (pw_or1 (pt_cmpR op_ne (pe_callB call_len_seq (by rfl) T.b_len (by decide +kernel) (pa_cons (pv 0) pa_nil)) pe_int (nomark _))))) (pss_one (ps_ret pe_bl)) pss_nil)
      (pss_cons (ps_asg (pv 0) (pg_tup rfl (pgs_cons (pg_name (i := 2) sc_is_ring.nd rfl (Or.inl rfl)) (pgs_cons (pg_name (i := 3) sc_is_ring.nd rfl (Or.inl rfl)) (pgs_cons (pg_name (i := 4) sc_is_ring.nd rfl (Or.inl rfl)) pgs_nil)))))
      (pss_cons (ps_if (PW.pt (pw_or (pt_not (pt_val (pe_cd D_is_whole (hr.mono (by decide)) (by rfl) (pa_cons (pv 3) pa_nil)))) (pw_or (pt_cmpR op_notIn_seq (pv 3) (pe_glob (v := .ref (He.ga K "SIZES")) (by rfl) T.g_SIZES rfl) (by rfl)) (pw_or1 (pt_cmpR op_ne (pe_op op_mod (pv 1) (pv 3)) pe_int (nomark _)))))) (pss_one (ps_ret pe_bl)) pss_nil)
      (pss_one (ps_ret (pe_and (pe_cd D_is_place (hr.mono (by decide)) (by rfl) (pa_cons (pv 2) (pa_cons (pe_op op_fdivW (pv 1) (pv 3)) pa_nil))) (pe_and (pe_cd D_is_whole (hr.mono (by decide)) (by rfl) (pa_cons (pv 4) pa_nil)) (pe_one (pe_cmpR op_ne (pv 4) pe_int (nomark _)))))))))), fn_body 3 rfl so rr q ?_⟩
      try dsimp only [cxOf, Cx.nox, Cx.wish]
      array_get_dec
      · exact rr_dat k
      · rename_i hb
        rw [hn] at hb
        cases hb
theorem ok_are_rings (F : FnP K "are_rings" s_are_rings f fd) (T : Txt K mg) (D_is_ring : Dn P w K mg base 3 "is_ring" ["thing", "many"] (lift K sd_is_ring)) : FnOk P w K mg base CX0 4 f fd ["thing", "many"] (lift K sd_are_rings) := by
  refine F.ok sc_are_rings (fun vs H Q E h => ?_) (fun cdv A outer s H vs Q E hr h => ?_)
  · obtain ⟨A, S, rs, Φ, so, rr, h, _⟩ := h
    obtain ⟨d, n, rfl, hp, hf, n0, k⟩ := h
    exact (Paired.length rr).symm
  · obtain ⟨A, S, rs, Φ, so, rr, h, q⟩ := h
    obtain ⟨d, n, rfl, hp, hf, n0, k⟩ := h
    rcases tup_cases d with ⟨ds, hi, ht⟩ | ⟨hi, hn⟩
    · replace rr := plain1 ht rr
      have pi := pd_items hp ht
      have lf := hf ds hi
      unfold Ck.ringsB at k
      rw [hi] at k
      have k1 : Φ (.bl (ds.all (Ck.ringB n))) S := k
      refine ⟨_, PSs.nox (pss_one (ps_ret (pe_and (pe_callB call_isi (by rfl) T.b_isinstance (by decide +kernel) (pa_cons (pv 0) (pa_cons (pe_bltn (v := .ty "tuple") (by rfl) T.b_tuple (by decide +kernel) rfl) pa_nil))) (pe_one (pe_callB (cr_all rfl) (by rfl) T.b_all (by decide +kernel) (pa_cons (pe_lc (own := [("ring", 2)]) (g := (gName 2)) (tt := tYes) rfl sc_are_rings.nd (pi_tup (pv 0)) (blkOk_by (own := [("ring", 2)]) (N := ["thing", "many", "ring"]) (sc := defScope s_are_rings) (by decide +kernel)) (fun _ _ _ _ _ => (pg_name (i := 2) sc_are_rings.nd rfl (Or.inl rfl))) (fun _ _ _ _ _ => pts_nil) (fun _ _ _ _ _ => (pe_cd D_is_ring (hr.mono (by decide)) (by rfl) (pa_cons (pv 2) (pa_cons (pv 1) pa_nil))))) pa_nil)))))), fn_body 1 rfl so rr q ?_⟩
      try dsimp only [cxOf, Cx.nox, Cx.wish]
      array_get_dec
      refine wp_lcM ?_
      array_get_dec
      refine ⟨ds.map fun d => .bl (Ck.ringB n d), by simp, lf, fun i d e S0 hd he => gc_name (by decide) fun Φ k => ?_, ?_⟩
      · rw [List.getElem?_map, hd] at he
        cases he
        array_get_dec
        exact is_ring_go (pi d (List.mem_of_getElem? hd)) n0 k
      · array_get_dec
        refine c_all (bs := ds.map (Ck.ringB n)) (by rw [List.map_map]; rfl) ?_
        rw [map_all]
        exact rr_dat k1
    · have pl := Ck.pd_Pl hp
      unfold Ck.ringsB at k
      rw [hi] at k
      refine ⟨_, PSs.nox (pss_one (ps_ret (pe_and (pe_callB call_isi (by rfl) T.b_isinstance (by decide +kernel) (pa_cons (pv 0) (pa_cons (pe_bltn (v := .ty "tuple") (by rfl) T.b_tuple (by decide +kernel) rfl) pa_nil))) (pe_one (pe_callB (cr_all rfl) (by rfl) T.b_all (by decide +kernel) (pa_cons (pe_lc (own := [("ring", 2)]) (g := (gName 2)) (tt := tYes) rfl sc_are_rings.nd (pi_tup (pv 0)) (blkOk_by (own := [("ring", 2)]) (N := ["thing", "many", "ring"]) (sc := defScope s_are_rings) (by decide +kernel)) (fun _ _ _ _ _ => (pg_name (i := 2) sc_are_rings.nd rfl (Or.inl rfl))) (fun _ _ _ _ _ => pts_nil) (fun _ _ _ _ _ => (pe_cd D_is_ring (hr.mono (by decide)) (by rfl) (pa_cons (pv 2) (pa_cons (pv 1) pa_nil))))) pa_nil)))))), fn_body 1 rfl so rr q ?_⟩
      try dsimp only [cxOf, Cx.nox, Cx.wish]
      array_get_dec
      · rename_i hb
        rw [hn] at hb
        cases hb
      · exact rr_dat k
end
end K34

namespace K34
open PySem PySem.Spec PyProof.Rows L2 Evl Dl
theorem ring_is {n : Int} {d : D} (h : Ck.ringB n d = true) : ∃ a b c : Int, (d = .tup [.int a, .int b, .int c] ∨ d = .ftup [.int a, .int b, .int c]) ∧ Ck.ringOf d = (a, b, c) ∧ (b = 2 ∨ b = 3 ∨ b = 5 ∨ b = 7) ∧ n % b = 0 ∧ 0 ≤ a ∧ a < n / b ∧ c ≠ 0 := by
  rcases tup_cases d with ⟨ds, hi, ht⟩ | ⟨hi, hn⟩
  · unfold Ck.ringB at h
    unfold Ck.ringOf
    rw [hi] at h ⊢
    match ds, h with
    | [a, b, c], h =>
      have h : ((Ck.isWh a && (Ck.isWh b && Ck.isWh c)) && ((decide (Ck.intOf b = 2) || (decide (Ck.intOf b = 3) || (decide (Ck.intOf b = 5) || decide (Ck.intOf b = 7)))) && (decide (n % Ck.intOf b = 0) && ((decide (0 ≤ Ck.intOf a) && decide (Ck.intOf a < n / Ck.intOf b)) && !decide (Ck.intOf c = 0))))) = true := h
      simp only [Bool.and_eq_true, Bool.or_eq_true, decide_eq_true_eq, Bool.not_eq_true', decide_eq_false_iff_not] at h
      obtain ⟨⟨ha, hb, hc⟩, h1, h2, ⟨h3, h4⟩, h5⟩ := h
      rcases wh_cases a with ⟨x, rfl⟩ | hw
      · rcases wh_cases b with ⟨y, rfl⟩ | hw
        · rcases wh_cases c with ⟨z, rfl⟩ | hw
          · exact ⟨x, y, z, ht, rfl, h1, h2, h3, h4, h5⟩
          · rw [hw] at hc; cases hc
        · rw [hw] at hb; cases hb
      · rw [hw] at ha; cases ha
    | [], h => cases h
    | [_], h => cases h
    | [_, _], h => cases h
    | _ :: _ :: _ :: _ :: _, h => cases h
  · unfold Ck.ringB at h
    rw [hi] at h
    cases h
def sd_with_rings : Sd := fun rs S Φ => ∃ (r : Dl.R) (ls : List Int) (d : D) (ds : List D), rs = [r, .dat d] ∧ SqR S r (ls.map .int) ∧ (3 ≤ ls.length ∧ ls.length ≤ 256) ∧ (d = .tup ds ∨ d = .ftup ds) ∧ ds.length < 100000 ∧ ds.all (Ck.ringB (ls.length : Nat)) = true ∧ Φ (.lst ((Ck.putAll ls (ds.map Ck.ringOf)).map .int)) S
theorem spots_len (f n g : Int) : (Ck.spots f n g).length = (Builtin.Range.rangeSize f n g).toNat := by
  unfold Ck.spots
  rw [List.length_map, List.length_range]
section
variable {P : Program} {w : World} {K : PySem.W.Frag} {mg : Str → Option Value} {base : Heap} {f : Addr} {fd : FuncData}
theorem ok_with_rings (F : FnP K "with_rings" s_with_rings f fd) (T : Txt K mg)  : FnOk P w K mg base CX0 1 f fd ["lengths", "rings"] (lift K sd_with_rings) := by
  refine F.ok sc_with_rings (fun vs H Q E h => ?_) (fun cdv A outer s H vs Q E hr h => ?_)
  · obtain ⟨A, S, rs, Φ, so, rr, h, _⟩ := h
    obtain ⟨r, ls, d, ds, rfl, hq, hl, ht, hf, ha, k⟩ := h
    exact (Paired.length rr).symm
  · obtain ⟨A, S, rs, Φ, so, rr, h, q⟩ := h
    obtain ⟨r, ls, d, ds, rfl, hq, hl, ht, hf, ha, k⟩ := h
    replace rr := plain2 ht rr
    refine ⟨_, PSs.nox (pss_cons (ps_set (i := 2) sc_with_rings.nd rfl (Or.inl rfl) (pe_callB call_len_seq (by rfl) T.b_len (by decide +kernel) (pa_cons (pv 0) pa_nil)))
      (pss_cons (ps_setM (ps_set (i := 3) sc_with_rings.nd rfl (Or.inl rfl) (pe_callTy call_list_of (by rfl) T.b_list (by decide +kernel) (pa_cons (pv 0) pa_nil))))
      (pss_cons (ps_for PassesOwn.never rfl (pi_tup (pv 1)) (pg_tup rfl (pgs_cons (pg_name (i := 4) sc_with_rings.nd rfl (Or.inl rfl)) (pgs_cons (pg_name (i := 5) sc_with_rings.nd rfl (Or.inl rfl)) (pgs_cons (pg_name (i := 6) sc_with_rings.nd rfl (Or.inl rfl)) pgs_nil)))) (pss_one (ps_for PassesOwn.never rfl (pi_range3 (by rfl) T.b_range (pa_cons (pv 4) (pa_cons (pv 2) (pa_cons (pe_op op_fdivW (pv 2) (pv 5)) pa_nil)))) (pg_name (i := 7) sc_with_rings.nd rfl (Or.inl rfl)) (pss_one (ps_augS (pv 3) (pv 7) get_list (pv 6) ip_add set_list)))))
      (pss_one (ps_ret (pv 3)))))), fn_body 6 rfl so rr q ?_⟩
    try dsimp only [cxOf, Cx.nox, Cx.wish]
    array_get_dec
    refine wp_varR rfl hq.ne ?_
    array_get_dec
    refine c_lenQ hq ?_
    rw [List.length_map]
    array_get_dec
    refine wp_varR rfl hq.ne ?_
    array_get_dec
    refine ⟨_, hq, ?_⟩
    array_get_dec
    have al := List.all_eq_true.mp ha
    refine ⟨fun i ρ S' => ∃ v1 v2 v3 v4, ρ = [r, .dat (.tup ds), .dat (.int (ls.length : Nat)), .mu S.length, v1, v2, v3, v4] ∧ S' = S ++ [.ls ((Ck.putAll ls ((ds.take i).map Ck.ringOf)).map .int)], ⟨_, _, _, _, rfl, rfl⟩, ⟨?_, ?_⟩⟩
    · rintro i d ρ S' hd ⟨v1, v2, v3, v4, rfl, rfl⟩
      have hd' := List.mem_of_getElem? hd
      obtain ⟨a, b, c, hd2, er, hb, hm, a0, a1, c0⟩ := ring_is (al d hd')
      refine wg_tp3 hd2 rfl ?_
      array_get_dec
      have g1 : (ls.length : Int) / b ≤ (ls.length : Int) := Int.ediv_le_self _ (by omega)
      generalize hG : (ls.length : Int) / b = g at *
      refine rg3 (by omega) (by omega) (by omega) ?_
      have li := (List.getElem?_eq_some_iff.mp hd).1
      have tk : ds.take (i + 1) = ds.take i ++ [d] := by
        rw [List.take_succ, hd]
        rfl
      have pl : (Ck.putAll ls ((ds.take i).map Ck.ringOf)).length = ls.length := Ck.putAll_len _ _
      generalize hC : Ck.putAll ls ((ds.take i).map Ck.ringOf) = cur at *
      refine ⟨fun j ρ S' => ∃ v4, ρ = [r, .dat (.tup ds), .dat (.int (ls.length : Nat)), .mu S.length, .dat (.int a), .dat (.int b), .dat (.int c), v4] ∧ S' = S ++ [.ls ((((Ck.spots a (ls.length : Nat) g).take j).foldl (Ck.bump c) cur).map .int)], ⟨_, rfl, rfl⟩, ⟨?_, ?_⟩⟩
      · rintro j e ρ S' he ⟨v4, rfl, rfl⟩
        unfold rng3 at he
        have lj := (List.getElem?_eq_some_iff.mp he).1
        rw [List.length_map, List.length_range] at lj
        rw [List.getElem?_map, List.getElem?_range lj] at he
        cases he
        obtain ⟨p0, p1⟩ := Ck.spot_in (g := g) (by omega) a0 lj
        have ep : a + (j : Int) * g = ((a + (j : Int) * g).toNat : Int) := by omega
        have bl : (((Ck.spots a (ls.length : Nat) g).take j).foldl (Ck.bump c) cur).length = ls.length := by
          rw [Ck.bumps_len, pl]
        have ts : (Ck.spots a (ls.length : Nat) g).take (j + 1) = (Ck.spots a (ls.length : Nat) g).take j ++ [(a + (j : Int) * g).toNat] := by
          rw [List.take_succ]
          unfold Ck.spots
          rw [List.getElem?_map, List.getElem?_range lj]
          rfl
        dsimp only
        rw [ep]
        generalize hP : (a + (j : Int) * g).toNat = p at *
        generalize hB : ((Ck.spots a (ls.length : Nat) g).take j).foldl (Ck.bump c) cur = now at *
        have lp : p < now.length := by omega
        array_get_dec
        refine getM_last (d := .int now[p]) (by rw [List.getElem?_map, List.getElem?_eq_getElem lp]; rfl) ?_
        array_get_dec
        refine putM_last (by rw [List.length_map]; exact lp) ⟨_, rfl, ?_⟩
        rw [ts, List.foldl_append, hB]
        show _ = S ++ [MO.ls ((Ck.bump c now p).map .int)]
        unfold Ck.bump
        rw [List.map_set, List.getElem?_eq_getElem lp]
        rfl
      · rintro ρ S' ⟨v4, rfl, rfl⟩
        refine ⟨_, _, _, _, rfl, ?_⟩
        have el : (rng3 a (ls.length : Nat) g).length = (Ck.spots a (ls.length : Nat) g).length := by
          rw [spots_len]
          unfold rng3
          rw [List.length_map, List.length_range]
        rw [el, List.take_length, tk, List.map_append, List.map_cons, List.map_nil, er]
        unfold Ck.putAll at hC ⊢
        rw [List.foldl_append, hC]
        show _ = S ++ [MO.ls ((Ck.putR cur (a, b, c)).map .int)]
        unfold Ck.putR
        rw [pl]
        show _ = S ++ [MO.ls (((Ck.spots a (ls.length : Nat) ((ls.length : Nat) / b)).foldl (Ck.bump c) cur).map .int)]
        rw [hG]
    · rintro ρ S' ⟨v1, v2, v3, v4, rfl, rfl⟩
      array_get_dec
      rw [List.take_length]
      exact rr_mu rfl rfl k
end
end K34

namespace K34
open PySem PySem.Spec PyProof.Rows L2 Evl Dl
def sd_power : Sd := fun rs S Φ => ∃ r t m : Int, rs = [.dat (.int r), .dat (.int t), .dat (.int m)] ∧ (0 ≤ t ∧ t ≤ 1000) ∧ (0 ≤ r ∧ r < 4000000000000000000) ∧ (2 ≤ m ∧ m < 4000000000000000000) ∧ Φ (.int (r ^ t.toNat % m)) S
theorem power_go {r t m : Int} {S : Store} {Φ : D → Store → Prop} (ht : 0 ≤ t ∧ t ≤ 1000) (hr : 0 ≤ r ∧ r < 4000000000000000000) (hm : 2 ≤ m ∧ m < 4000000000000000000) (k : Φ (.int (r ^ t.toNat % m)) S) : sd_power [.dat (.int r), .dat (.int t), .dat (.int m)] S Φ := ⟨r, t, m, rfl, ht, hr, hm, k⟩
def sd_summed : Sd := fun rs S Φ => ∃ (d : D) (ls : List Int) (m r : Int), rs = [.dat d, .dat (.int m), .dat (.int r)] ∧ (d = .lst (ls.map .int) ∨ d = .tup (ls.map .int) ∨ d = .ftup (ls.map .int)) ∧ (∀ l ∈ ls, l.natAbs < 2 ^ 400) ∧ (0 ≤ r ∧ r < 4000000000000000000) ∧ (2 ≤ m ∧ m < 4000000000000000000) ∧ Φ (.int (Ck.ev ls r % m)) S
theorem summed_go {d : D} {ls : List Int} {m r : Int} {S : Store} {Φ : D → Store → Prop} (hd : d = .lst (ls.map .int) ∨ d = .tup (ls.map .int) ∨ d = .ftup (ls.map .int)) (hl : ∀ l ∈ ls, l.natAbs < 2 ^ 400) (hr : 0 ≤ r ∧ r < 4000000000000000000) (hm : 2 ≤ m ∧ m < 4000000000000000000) (k : Φ (.int (Ck.ev ls r % m)) S) : sd_summed [.dat d, .dat (.int m), .dat (.int r)] S Φ := ⟨d, ls, m, r, rfl, hd, hl, hr, hm, k⟩
section
variable {P : Program} {w : World} {K : PySem.W.Frag} {mg : Str → Option Value} {base : Heap} {f : Addr} {fd : FuncData}
theorem ok_power (F : FnP K "power" s_power f fd) (T : Txt K mg)  : FnOk P w K mg base CX0 1 f fd ["root", "times", "modulus"] (lift K sd_power) := by
  refine F.ok sc_power (fun vs H Q E h => ?_) (fun cdv A outer s H vs Q E hr h => ?_)
  · obtain ⟨A, S, rs, Φ, so, rr, h, _⟩ := h
    obtain ⟨r, t, m, rfl, ht, hr, hm, k⟩ := h
    exact (Paired.length rr).symm
  · obtain ⟨A, S, rs, Φ, so, rr, h, q⟩ := h
    obtain ⟨r, t, m, rfl, ht, hr, hm, k⟩ := h
    refine ⟨_, PSs.nox (pss_cons (ps_set (i := 3) sc_power.nd rfl (Or.inl rfl) pe_int)
      (pss_cons (ps_for PassesOwn.never rfl (pi_range1 (by rfl) T.b_range (pa_cons (pv 1) pa_nil)) (pg_name (i := 4) sc_power.nd rfl (Or.inl rfl)) (pss_one (ps_set (i := 3) sc_power.nd rfl (Or.inl rfl) (pe_op op_mod (pe_op op_mulW (pv 3) (pv 0)) (pv 2)))))
      (pss_one (ps_ret (pv 3))))), fn_body 2 rfl so rr q ?_⟩
    try dsimp only [cxOf, Cx.nox, Cx.wish]
    array_get_dec
    refine rg1 (by omega) (by omega) ?_
    refine ⟨fun i ρ S' => ∃ v, ρ = [.dat (.int r), .dat (.int t), .dat (.int m), .dat (.int (r ^ i % m)), v] ∧ S' = S, ⟨_, by rw [Int.pow_zero, Int.emod_eq_of_lt (by omega) (by omega)]; rfl, rfl⟩, ⟨?_, ?_⟩⟩
    · rintro i d ρ S' hd ⟨v, rfl, rfl⟩
      have b0 := Int.emod_nonneg (r ^ i) (show m ≠ 0 by omega)
      have b1 := Int.emod_lt_of_pos (r ^ i) (show 0 < m by omega)
      generalize hB : r ^ i % m = b at *
      array_get_dec
      refine ⟨.dat d, ?_, rfl⟩
      rw [Ck.pow_step b r m i hB.symm]
      rfl
    · rintro ρ S' ⟨v, rfl, rfl⟩
      array_get_dec
      have e : (rng0 t).length = t.toNat := by
        unfold rng0
        simp
      rw [e]
      exact rr_dat k
theorem ok_summed (F : FnP K "summed" s_summed f fd) (T : Txt K mg)  : FnOk P w K mg base CX0 1 f fd ["lengths", "modulus", "root"] (lift K sd_summed) := by
  refine F.ok sc_summed (fun vs H Q E h => ?_) (fun cdv A outer s H vs Q E hr h => ?_)
  · obtain ⟨A, S, rs, Φ, so, rr, h, _⟩ := h
    obtain ⟨d, ls, m, r, rfl, hq, hl, hr2, hm, k⟩ := h
    exact (Paired.length rr).symm
  · obtain ⟨A, S, rs, Φ, so, rr, h, q⟩ := h
    obtain ⟨d, ls, m, r, rfl, hq, hl, hr2, hm, k⟩ := h
    rcases hq with rfl | rfl | rfl
    all_goals
      refine ⟨_, PSs.nox (pss_cons (ps_set (i := 3) sc_summed.nd rfl (Or.inl rfl) pe_int)
      (pss_cons (ps_set (i := 4) sc_summed.nd rfl (Or.inl rfl) pe_int)
      (pss_cons (ps_for PassesOwn.never rfl (pi_seq (pv 0)) (pg_name (i := 5) sc_summed.nd rfl (Or.inl rfl)) (pss_cons (ps_set (i := 3) sc_summed.nd rfl (Or.inl rfl) (pe_op op_mod (pe_op op_add (pv 3) (pe_op op_mulW (pv 5) (pv 4))) (pv 1)))
        (pss_one (ps_set (i := 4) sc_summed.nd rfl (Or.inl rfl) (pe_op op_mod (pe_op op_mulW (pv 4) (pv 2)) (pv 1))))))
      (pss_one (ps_ret (pv 3)))))), fn_body 3 rfl so rr q ?_⟩
      try dsimp only [cxOf, Cx.nox, Cx.wish]
      array_get_dec
      refine ⟨fun i ρ S' => ∃ v, ρ = [_, .dat (.int m), .dat (.int r), .dat (.int (Ck.ev (ls.take i) r % m)), .dat (.int (r ^ i % m)), v] ∧ S' = S, ⟨_, by rw [Int.pow_zero, Int.emod_eq_of_lt (a := 1) (by omega) (by omega)]; rfl, rfl⟩, ⟨?_, ?_⟩⟩
      · rintro i d ρ S' hd ⟨v, rfl, rfl⟩
        rw [List.getElem?_map] at hd
        cases e : ls[i]? with
        | none => rw [e] at hd; cases hd
        | some l =>
          rw [e] at hd
          cases hd
          have lb := hl l (List.mem_of_getElem? e)
          have b0 := Int.emod_nonneg (r ^ i) (show m ≠ 0 by omega)
          have b1 := Int.emod_lt_of_pos (r ^ i) (show 0 < m by omega)
          have es := Ck.sum_step (Ck.ev (ls.take i) r) l (r ^ i) m
          rw [← Ck.ev_take e] at es
          generalize hB : r ^ i % m = b at *
          array_get_dec
          refine ⟨.dat (.int l), ?_, rfl⟩
          rw [es, Ck.pow_step b r m i hB.symm]
          rfl
      · rintro ρ S' ⟨v, rfl, rfl⟩
        array_get_dec
        rw [List.length_map, List.take_length]
        exact rr_dat k
end
end K34

namespace K34
open PySem PySem.Spec PyProof.Rows L2 Evl Dl
def sd_root_fits : Sd := fun rs S Φ => ∃ n m r : Int, rs = [.dat (.int n), .dat (.int m), .dat (.int r)] ∧ (3 ≤ n ∧ n ≤ 256) ∧ (0 ≤ r ∧ r < 4000000000000000000) ∧ (2 ≤ m ∧ m < 4000000000000000000) ∧ Φ (.bl (Ck.fits n m r)) S
theorem root_fits_go {n m r : Int} {S : Store} {Φ : D → Store → Prop} (hn : 3 ≤ n ∧ n ≤ 256) (hr : 0 ≤ r ∧ r < 4000000000000000000) (hm : 2 ≤ m ∧ m < 4000000000000000000) (k : Φ (.bl (Ck.fits n m r)) S) : sd_root_fits [.dat (.int n), .dat (.int m), .dat (.int r)] S Φ := ⟨n, m, r, rfl, hn, hr, hm, k⟩
theorem rep_one (n : Nat) : (List.replicate n [D.int 1]).flatten = (List.replicate n (1 : Int)).map .int := by
  induction n with
  | zero => rfl
  | succ n ih => rw [List.replicate_succ, List.replicate_succ, List.flatten_cons, ih, List.map_cons]; rfl
section
variable {P : Program} {w : World} {K : PySem.W.Frag} {mg : Str → Option Value} {base : Heap} {f : Addr} {fd : FuncData}
theorem ok_root_fits (F : FnP K "root_fits" s_root_fits f fd) (T : Txt K mg) (D_power : Dn P w K mg base 1 "power" ["root", "times", "modulus"] (lift K sd_power)) (D_summed : Dn P w K mg base 1 "summed" ["lengths", "modulus", "root"] (lift K sd_summed)) : FnOk P w K mg base CX0 2 f fd ["many", "modulus", "root"] (lift K sd_root_fits) := by
  refine F.ok sc_root_fits (fun vs H Q E h => ?_) (fun cdv A outer s H vs Q E hr h => ?_)
  · obtain ⟨A, S, rs, Φ, so, rr, h, _⟩ := h
    obtain ⟨n, m, r, rfl, hn, hr2, hm, k⟩ := h
    exact (Paired.length rr).symm
  · obtain ⟨A, S, rs, Φ, so, rr, h, q⟩ := h
    obtain ⟨n, m, r, rfl, hn, hr2, hm, k⟩ := h
    refine ⟨_, PSs.nox (pss_cons (ps_if (pt_cmpR op_eq (pe_op op_mod (pv 0) pe_int) pe_int (nomark _)) (pss_one (ps_ret (pe_cmpR op_eq (pe_cd D_summed (hr.mono (by decide)) (by rfl) (pa_cons (pe_op op_rep (pe_lst (pa_cons pe_int pa_nil)) (pv 0)) (pa_cons (pv 1) (pa_cons (pv 2) pa_nil)))) pe_int (nomark _)))) pss_nil)
      (pss_cons (ps_for PassesOwn.never rfl (pi_glo (pe_glob (v := .ref (He.ga K "ODD_SIZES")) (by rfl) T.g_ODD_SIZES rfl)) (pg_name (i := 3) sc_root_fits.nd rfl (Or.inl rfl)) (pss_one (ps_if (pt_cmpR op_eq (pe_op op_mod (pv 0) (pv 3)) pe_int (nomark _)) (pss_cons (ps_setLc (i := 4) (own := [("at", 5)]) (g := (gName 5)) (tt := tYes) rfl sc_root_fits.nd rfl rfl (sw_true rfl rfl rfl rfl) (pi_range1 (by rfl) T.b_range (pa_cons (pv 3) pa_nil)) (blkOk_by (own := [("at", 5)]) (N := ["many", "modulus", "root", "size", "signs", "at"]) (sc := defScope s_root_fits) (by decide +kernel)) (fun _ _ _ _ _ => (pg_name (i := 5) sc_root_fits.nd rfl (Or.inl rfl))) (fun _ _ _ _ _ => pts_nil) (fun _ _ _ _ _ => (pe_ifExp (pt_cmpR op_eq (pe_op op_mod (pv 5) pe_int) pe_int (nomark _)) (pe_un un_neg pe_int) pe_int)))
          (pss_one (ps_ret (pe_cmpR op_eq (pe_cd D_summed (hr.mono (by decide)) (by rfl) (pa_cons (pv 4) (pa_cons (pv 1) (pa_cons (pe_cd D_power (hr.mono (by decide)) (by rfl) (pa_cons (pv 2) (pa_cons (pe_op op_fdivW (pv 0) (pe_op op_mulW pe_int (pv 3))) (pa_cons (pv 1) pa_nil)))) pa_nil)))) pe_int (nomark _))))) pss_nil)))
      (pss_one (ps_ret (pe_cmpR op_eq (pe_cd D_power (hr.mono (by decide)) (by rfl) (pa_cons (pv 2) (pa_cons (pe_op op_fdivW (pv 0) pe_int) (pa_cons (pv 1) pa_nil)))) (pe_op op_sub (pv 1) pe_int) (nomark _)))))), fn_body 3 rfl so rr q ?_⟩
    try dsimp only [cxOf, Cx.nox, Cx.wish]
    array_get_dec
    · rename_i hb
      refine o_rep ls_dat (by omega) (by simp; omega) ?_
      rw [rep_one]
      array_get_dec
      refine summed_go (.inl rfl) (fun l hl => by rw [List.eq_of_mem_replicate hl]; decide) hr2 hm ?_
      array_get_dec
      unfold Ck.fits at k
      rw [if_pos (by omega)] at k
      exact rr_dat k
    · rename_i hb
      have n2 : n % 2 = 0 := by omega
      refine sqg (ns := [3, 5, 7]) T.t_ODD_SIZES ?_
      refine ⟨fun i ρ S' => ∃ v1 v2, ρ = [.dat (.int n), .dat (.int m), .dat (.int r), v1, v2, .no] ∧ S' = S ∧ ∀ p ∈ [3, 5, (7 : Int)].take i, n % p ≠ 0, ⟨_, _, rfl, rfl, fun p hp => nomatch hp⟩, ⟨?_, ?_⟩⟩
      · rintro i d ρ S' hd ⟨v1, v2, rfl, rfl, hno⟩
        rw [List.getElem?_map] at hd
        cases e : [3, 5, (7 : Int)][i]? with
        | none => rw [e] at hd; cases hd
        | some p =>
          rw [e] at hd
          cases hd
          have hp : p = 3 ∨ p = 5 ∨ p = 7 := by
            have := List.mem_of_getElem? e
            simpa using this
          array_get_dec
          · rename_i hb3
            have hb3 : n % p = 0 := hb3
            refine wp_lcM ?_
            array_get_dec
            refine rg1 (by omega) (by omega) ?_
            refine ⟨((List.range p.toNat).map fun i => if (i : Nat) % 2 = 1 then (-1 : Int) else 1).map .int, by unfold rng0; simp, by unfold rng0; simp; omega, fun j d e S0 hd he => gc_name (by decide) fun Φ k => ?_, ?_⟩
            · unfold rng0 at hd
              have lj := (List.getElem?_eq_some_iff.mp hd).1
              rw [List.length_map, List.length_range] at lj
              rw [List.getElem?_map, List.getElem?_range lj] at hd
              rw [List.getElem?_map, List.getElem?_map, List.getElem?_range lj] at he
              cases hd
              cases he
              dsimp only at k
              array_get_dec
              · rename_i h1
                rw [if_pos (by omega)] at k
                exact k
              · rename_i h1
                rw [if_neg (by omega)] at k
                exact k
            · array_get_dec
              have q0 : 0 ≤ n / (2 * p) := Int.ediv_nonneg (by omega) (by omega)
              have q1 : n / (2 * p) ≤ n := Int.ediv_le_self _ (by omega)
              refine power_go (by omega) hr2 hm ?_
              array_get_dec
              have b0 := Int.emod_nonneg (r ^ (n / (2 * p)).toNat) (show m ≠ 0 by omega)
              have b1 := Int.emod_lt_of_pos (r ^ (n / (2 * p)).toNat) (show 0 < m by omega)
              refine summed_go (.inl rfl) (fun l hl => ?_) (by omega) hm ?_
              · obtain ⟨i, _, rfl⟩ := List.mem_map.mp hl
                by_cases h : i % 2 = 1
                · rw [if_pos h]; decide
                · rw [if_neg h]; decide
              array_get_dec
              have ek : Ck.fits n m r = Ck.fitp p n m r := by
                unfold Ck.fits
                rw [if_neg (by omega)]
                match i, e, hno with
                | 0, e, hno =>
                  cases e
                  rw [if_pos hb3]
                | 1, e, hno =>
                  cases e
                  rw [if_neg (hno 3 (by simp)), if_pos hb3]
                | 2, e, hno =>
                  cases e
                  rw [if_neg (hno 3 (by simp)), if_neg (hno 5 (by simp)), if_pos hb3]
                | i + 3, e, hno => cases e
              rw [ek] at k
              exact rr_dat k
          · rename_i hb3
            refine ⟨_, _, rfl, rfl, fun x hx => ?_⟩
            rw [List.take_add_one, e] at hx
            rcases List.mem_append.mp hx with hx | hx
            · exact hno x hx
            · rw [show x = p by simpa using hx]
              exact hb3
      · rintro ρ S' ⟨v1, v2, rfl, rfl, hno⟩
        have h3 := hno 3 (by simp)
        have h5 := hno 5 (by simp)
        have h7 := hno 7 (by simp)
        array_get_dec
        refine power_go (by omega) hr2 hm ?_
        array_get_dec
        unfold Ck.fits at k
        rw [if_neg (by omega), if_neg h3, if_neg h5, if_neg h7] at k
        exact rr_dat k
end
end K34

namespace K34
open PySem PySem.Spec PyProof.Rows L2 Evl Dl
def sd_shows_away : Sd := fun rs S Φ => ∃ l p, rs = [.dat l, .dat p] ∧ Ck.pd l = true ∧ Ck.pd p = true ∧ Ck.small l ∧ Ck.lowM p ∧ Φ (.bl (Ck.awayL l p)) S
theorem plain1b {K : PySem.W.Frag} {A : List Addr} {S : Store} {H : Hp} {d e : D} {ds es : List D} {vs : List V} (h : d = .tup ds ∨ d = .ftup ds) (h2 : e = .tup es ∨ e = .ftup es) (r : RepRs K A S H [.dat d, .dat e] vs) : RepRs K A S H [.dat (.tup ds), .dat (.tup es)] vs := plain1 h (plain2 h2 r)
section
variable {P : Program} {w : World} {K : PySem.W.Frag} {mg : Str → Option Value} {base : Heap} {f : Addr} {fd : FuncData}
theorem ok_shows_away (F : FnP K "shows_away" s_shows_away f fd) (T : Txt K mg) (D_is_whole : Dn P w K mg base 1 "is_whole" ["thing"] (lift K sd_is_whole)) (D_are_lengths : Dn P w K mg base 3 "are_lengths" ["thing"] (lift K sd_are_lengths)) (D_summed : Dn P w K mg base 1 "summed" ["lengths", "modulus", "root"] (lift K sd_summed)) (D_root_fits : Dn P w K mg base 2 "root_fits" ["many", "modulus", "root"] (lift K sd_root_fits)) : FnOk P w K mg base CX0 5 f fd ["lengths", "paper"] (lift K sd_shows_away) := by
  refine F.ok sc_shows_away (fun vs H Q E h => ?_) (fun cdv A outer s H vs Q E hr h => ?_)
  · obtain ⟨A, S, rs, Φ, so, rr, h, _⟩ := h
    obtain ⟨l, p, rfl, hl, hp, hs, hm, k⟩ := h
    exact (Paired.length rr).symm
  · obtain ⟨A, S, rs, Φ, so, rr, h, q⟩ := h
    obtain ⟨l, p, rfl, hl, hp, hs, hm, k⟩ := h
    rcases tup_cases l with ⟨ls, hi, ht⟩ | ⟨hi, hn⟩
    · have el : Ck.lensOf l = ls.map Ck.intOf := by
        unfold Ck.lensOf
        rw [hi]
        rfl
      have eb : Ck.lensB l = (Ck.isMany (ls.length : Nat) && ls.all Ck.isWh) := by
        unfold Ck.lensB
        rw [hi]
      have hl1 : Ck.pd (.tup ls) = true := by
        rcases ht with rfl | rfl
        · exact hl
        · simpa [Ck.pd] using hl
      have eb1 : Ck.lensB (.tup ls) = (Ck.isMany (ls.length : Nat) && ls.all Ck.isWh) := rfl
      unfold Ck.small at hs
      rw [hi] at hs
      unfold Ck.awayL at k
      rw [el, List.length_map] at k
      replace rr := plain1 ht rr
      cases hb : Ck.lensB l with
      | false =>
        rw [hb] at k
        rcases tup_cases p with ⟨ds, hi2, ht2⟩ | ⟨hi2, hn2⟩
        · replace rr := plain2 ht2 rr
          refine ⟨_, PSs.nox (pss_cons (ps_if (PW.pt (pw_or (pt_not (pt_val (pe_cd D_are_lengths (hr.mono (by decide)) (by rfl) (pa_cons (pv 0) pa_nil)))) (pw_or (pt_not (pt_val (pe_callB call_isi (by rfl) T.b_isinstance (by decide +kernel) (pa_cons (pv 1) (pa_cons (pe_bltn (v := .ty "tuple") (by rfl) T.b_tuple (by decide +kernel) rfl) pa_nil))))) (pw_or1 (pt_cmpR op_ne (pe_callB call_len_seq (by rfl) T.b_len (by decide +kernel) (pa_cons (pv 1) pa_nil)) pe_int (nomark _)))))) (pss_one (ps_ret pe_bl)) pss_nil)
      (pss_cons (ps_asg (pv 1) (pg_tup rfl (pgs_cons (pg_name (i := 2) sc_shows_away.nd rfl (Or.inl rfl)) (pgs_cons (pg_name (i := 3) sc_shows_away.nd rfl (Or.inl rfl)) pgs_nil))))
      (pss_cons (ps_if (PW.pt (pw_or (pt_not (pt_val (pe_cd D_is_whole (hr.mono (by decide)) (by rfl) (pa_cons (pv 2) pa_nil)))) (pw_or (pt_cmpR op_lt (pv 2) pe_int (nomark _)) (pw_or (pt_not (pt_val (pe_cd D_is_whole (hr.mono (by decide)) (by rfl) (pa_cons (pv 3) pa_nil)))) (pw_or (pt_cmpR op_lt (pv 3) pe_int (nomark _)) (pw_or1 (pt_cmpR op_ge (pv 3) (pv 2) (nomark _)))))))) (pss_one (ps_ret pe_bl)) pss_nil)
      (pss_one (ps_ret (pe_and (pe_cd D_root_fits (hr.mono (by decide)) (by rfl) (pa_cons (pe_callB call_len_seq (by rfl) T.b_len (by decide +kernel) (pa_cons (pv 0) pa_nil)) (pa_cons (pv 2) (pa_cons (pv 3) pa_nil)))) (pe_one (pe_cmpR op_ne (pe_cd D_summed (hr.mono (by decide)) (by rfl) (pa_cons (pv 0) (pa_cons (pv 2) (pa_cons (pv 3) pa_nil)))) pe_int (nomark _))))))))), fn_body 2 rfl so rr q ?_⟩
          try dsimp only [cxOf, Cx.nox, Cx.wish]
          array_get_dec
          refine are_lengths_go hl1 ?_
          rw [eb1, ← eb, hb]
          array_get_dec
          exact rr_dat k
        · have pl := Ck.pd_Pl hp
          refine ⟨_, PSs.nox (pss_cons (ps_if (PW.pt (pw_or (pt_not (pt_val (pe_cd D_are_lengths (hr.mono (by decide)) (by rfl) (pa_cons (pv 0) pa_nil)))) (pw_or (pt_not (pt_val (pe_callB call_isi (by rfl) T.b_isinstance (by decide +kernel) (pa_cons (pv 1) (pa_cons (pe_bltn (v := .ty "tuple") (by rfl) T.b_tuple (by decide +kernel) rfl) pa_nil))))) (pw_or1 (pt_cmpR op_ne (pe_callB call_len_seq (by rfl) T.b_len (by decide +kernel) (pa_cons (pv 1) pa_nil)) pe_int (nomark _)))))) (pss_one (ps_ret pe_bl)) pss_nil)
      (pss_cons (ps_asg (pv 1) (pg_tup rfl (pgs_cons (pg_name (i := 2) sc_shows_away.nd rfl (Or.inl rfl)) (pgs_cons (pg_name (i := 3) sc_shows_away.nd rfl (Or.inl rfl)) pgs_nil))))
      (pss_cons (ps_if (PW.pt (pw_or (pt_not (pt_val (pe_cd D_is_whole (hr.mono (by decide)) (by rfl) (pa_cons (pv 2) pa_nil)))) (pw_or (pt_cmpR op_lt (pv 2) pe_int (nomark _)) (pw_or (pt_not (pt_val (pe_cd D_is_whole (hr.mono (by decide)) (by rfl) (pa_cons (pv 3) pa_nil)))) (pw_or (pt_cmpR op_lt (pv 3) pe_int (nomark _)) (pw_or1 (pt_cmpR op_ge (pv 3) (pv 2) (nomark _)))))))) (pss_one (ps_ret pe_bl)) pss_nil)
      (pss_one (ps_ret (pe_and (pe_cd D_root_fits (hr.mono (by decide)) (by rfl) (pa_cons (pe_callB call_len_seq (by rfl) T.b_len (by decide +kernel) (pa_cons (pv 0) pa_nil)) (pa_cons (pv 2) (pa_cons (pv 3) pa_nil)))) (pe_one (pe_cmpR op_ne (pe_cd D_summed (hr.mono (by decide)) (by rfl) (pa_cons (pv 0) (pa_cons (pv 2) (pa_cons (pv 3) pa_nil)))) pe_int (nomark _))))))))), fn_body 2 rfl so rr q ?_⟩
          try dsimp only [cxOf, Cx.nox, Cx.wish]
          array_get_dec
          refine are_lengths_go hl1 ?_
          rw [eb1, ← eb, hb]
          array_get_dec
          exact rr_dat k
      | true =>
        rw [hb] at k
        have hb1 := hb
        rw [eb, Bool.and_eq_true] at hb1
        have lm := many_le hb1.1
        have ew := Ck.whs hb1.2
        rcases tup_cases p with ⟨ds, hi2, ht2⟩ | ⟨hi2, hn2⟩
        · replace rr := plain2 ht2 rr
          have pi := pd_items hp ht2
          rw [hi2] at k
          by_cases h2 : ds.length = 2
          · obtain ⟨a, b, rfl⟩ : ∃ a b, ds = [a, b] := by
              match ds, h2 with
              | [a, b], _ => exact ⟨a, b, rfl⟩
            have pa := pi a (by simp)
            have pb := pi b (by simp)
            rcases wh_cases a with ⟨m, rfl⟩ | ha
            · rcases wh_cases b with ⟨r, rfl⟩ | hb2
              · replace hm := hm m (.int r) hi2
                have k1 : Φ (.bl ((decide (2 ≤ m) && (decide (0 ≤ r) && decide (r < m))) && (Ck.fits (ls.length : Nat) m r && !decide (Ck.ev (ls.map Ck.intOf) r % m = 0)))) S := k
                refine ⟨_, PSs.nox (pss_cons (ps_if (PW.pt (pw_or (pt_not (pt_val (pe_cd D_are_lengths (hr.mono (by decide)) (by rfl) (pa_cons (pv 0) pa_nil)))) (pw_or (pt_not (pt_val (pe_callB call_isi (by rfl) T.b_isinstance (by decide +kernel) (pa_cons (pv 1) (pa_cons (pe_bltn (v := .ty "tuple") (by rfl) T.b_tuple (by decide +kernel) rfl) pa_nil))))) (pw_or1 (pt_cmpR op_ne (pe_callB call_len_seq (by rfl) T.b_len (by decide +kernel) (pa_cons (pv 1) pa_nil)) pe_int (nomark _)))))) (pss_one (ps_ret pe_bl)) pss_nil)
      (pss_cons (ps_asg (pv 1) (pg_tup rfl (pgs_cons (pg_name (i := 2) sc_shows_away.nd rfl (Or.inl rfl)) (pgs_cons (pg_name (i := 3) sc_shows_away.nd rfl (Or.inl rfl)) pgs_nil))))
      (pss_cons (ps_if (PW.pt (pw_or (pt_not (pt_val (pe_cd D_is_whole (hr.mono (by decide)) (by rfl) (pa_cons (pv 2) pa_nil)))) (pw_or (pt_cmpR op_lt (pv 2) pe_int (nomark _)) (pw_or (pt_not (pt_val (pe_cd D_is_whole (hr.mono (by decide)) (by rfl) (pa_cons (pv 3) pa_nil)))) (pw_or (pt_cmpR op_lt (pv 3) pe_int (nomark _)) (pw_or1 (pt_cmpR op_ge (pv 3) (pv 2) (nomark _)))))))) (pss_one (ps_ret pe_bl)) pss_nil)
      (pss_one (ps_ret (pe_and (pe_cd D_root_fits (hr.mono (by decide)) (by rfl) (pa_cons (pe_callB call_len_seq (by rfl) T.b_len (by decide +kernel) (pa_cons (pv 0) pa_nil)) (pa_cons (pv 2) (pa_cons (pv 3) pa_nil)))) (pe_one (pe_cmpR op_ne (pe_cd D_summed (hr.mono (by decide)) (by rfl) (pa_cons (pv 0) (pa_cons (pv 2) (pa_cons (pv 3) pa_nil)))) pe_int (nomark _))))))))), fn_body 2 rfl so rr q ?_⟩
                try dsimp only [cxOf, Cx.nox, Cx.wish]
                array_get_dec
                refine are_lengths_go hl1 ?_
                rw [eb1, ← eb, hb]
                array_get_dec
                refine is_whole_go rfl ?_
                array_get_dec
                · rename_i h
                  rw [decide_eq_false (p := 2 ≤ m) (by omega)] at k1
                  exact rr_dat k1
                · rename_i h
                  refine is_whole_go rfl ?_
                  array_get_dec
                  · rename_i h0
                    rw [decide_eq_false (p := 0 ≤ r) (by omega), Bool.false_and, Bool.and_false] at k1
                    exact rr_dat k1
                  · rename_i h0 h1
                    rw [decide_eq_false (p := r < m) (by omega), Bool.and_false, Bool.and_false] at k1
                    exact rr_dat k1
                  · rename_i h0 h1
                    rw [decide_eq_true (p := 2 ≤ m) (by omega), decide_eq_true (p := 0 ≤ r) (by omega), decide_eq_true (p := r < m) (by omega)] at k1
                    refine root_fits_go (by omega) (by omega) (by omega) ?_
                    array_get_dec
                    · rename_i hfit
                      rw [hfit] at k1
                      refine summed_go (.inr (.inl (congrArg D.tup ew))) (fun x hx => ?_) (by omega) (by omega) ?_
                      · refine hs x ?_
                        rw [ew]
                        exact List.mem_map.mpr ⟨x, hx, rfl⟩
                      array_get_dec
                      exact rr_dat k1
                    · rename_i hfit
                      rw [hfit] at k1
                      exact rr_dat k1
              · have k1 : Φ (.bl false) S := by
                  simpa [hb2] using k
                refine ⟨_, PSs.nox (pss_cons (ps_if (PW.pt (pw_or (pt_not (pt_val (pe_cd D_are_lengths (hr.mono (by decide)) (by rfl) (pa_cons (pv 0) pa_nil)))) (pw_or (pt_not (pt_val (pe_callB call_isi (by rfl) T.b_isinstance (by decide +kernel) (pa_cons (pv 1) (pa_cons (pe_bltn (v := .ty "tuple") (by rfl) T.b_tuple (by decide +kernel) rfl) pa_nil))))) (pw_or1 (pt_cmpR op_ne (pe_callB call_len_seq (by rfl) T.b_len (by decide +kernel) (pa_cons (pv 1) pa_nil)) pe_int (nomark _)))))) (pss_one (ps_ret pe_bl)) pss_nil)
      (pss_cons (ps_asg (pv 1) (pg_tup rfl (pgs_cons (pg_name (i := 2) sc_shows_away.nd rfl (Or.inl rfl)) (pgs_cons (pg_name (i := 3) sc_shows_away.nd rfl (Or.inl rfl)) pgs_nil))))
      (pss_cons (ps_if (PW.pt (pw_or (pt_not (pt_val (pe_cd D_is_whole (hr.mono (by decide)) (by rfl) (pa_cons (pv 2) pa_nil)))) (pw_or (pt_cmpR op_lt (pv 2) pe_int (nomark _)) (pw_or (pt_not (pt_val (pe_cd D_is_whole (hr.mono (by decide)) (by rfl) (pa_cons (pv 3) pa_nil)))) (pw_or (pt_cmpR op_lt (pv 3) pe_int (nomark _)) (pw_or1 (pt_cmpR op_ge (pv 3) (pv 2) (nomark _)))))))) (pss_one (ps_ret pe_bl)) pss_nil)
      (pss_one (ps_ret (pe_and (pe_cd D_root_fits (hr.mono (by decide)) (by rfl) (pa_cons (pe_callB call_len_seq (by rfl) T.b_len (by decide +kernel) (pa_cons (pv 0) pa_nil)) (pa_cons (pv 2) (pa_cons (pv 3) pa_nil)))) (pe_one (pe_cmpR op_ne (pe_cd D_summed (hr.mono (by decide)) (by rfl) (pa_cons (pv 0) (pa_cons (pv 2) (pa_cons (pv 3) pa_nil)))) pe_int (nomark _))))))))), fn_body 2 rfl so rr q ?_⟩
                try dsimp only [cxOf, Cx.nox, Cx.wish]
                array_get_dec
                refine are_lengths_go hl1 ?_
                rw [eb1, ← eb, hb]
                array_get_dec
                refine is_whole_go rfl ?_
                array_get_dec
                · exact rr_dat k1
                · refine is_whole_go pb ?_
                  rw [hb2]
                  array_get_dec
                  exact rr_dat k1
            · have k1 : Φ (.bl false) S := by
                simpa [ha] using k
              refine ⟨_, PSs.nox (pss_cons (ps_if (PW.pt (pw_or (pt_not (pt_val (pe_cd D_are_lengths (hr.mono (by decide)) (by rfl) (pa_cons (pv 0) pa_nil)))) (pw_or (pt_not (pt_val (pe_callB call_isi (by rfl) T.b_isinstance (by decide +kernel) (pa_cons (pv 1) (pa_cons (pe_bltn (v := .ty "tuple") (by rfl) T.b_tuple (by decide +kernel) rfl) pa_nil))))) (pw_or1 (pt_cmpR op_ne (pe_callB call_len_seq (by rfl) T.b_len (by decide +kernel) (pa_cons (pv 1) pa_nil)) pe_int (nomark _)))))) (pss_one (ps_ret pe_bl)) pss_nil)
      (pss_cons (ps_asg (pv 1) (pg_tup rfl (pgs_cons (pg_name (i := 2) sc_shows_away.nd rfl (Or.inl rfl)) (pgs_cons (pg_name (i := 3) sc_shows_away.nd rfl (Or.inl rfl)) pgs_nil))))
      (pss_cons (ps_if (PW.pt (pw_or (pt_not (pt_val (pe_cd D_is_whole (hr.mono (by decide)) (by rfl) (pa_cons (pv 2) pa_nil)))) (pw_or (pt_cmpR op_lt (pv 2) pe_int (nomark _)) (pw_or (pt_not (pt_val (pe_cd D_is_whole (hr.mono (by decide)) (by rfl) (pa_cons (pv 3) pa_nil)))) (pw_or (pt_cmpR op_lt (pv 3) pe_int (nomark _)) (pw_or1 (pt_cmpR op_ge (pv 3) (pv 2) (nomark _)))))))) (pss_one (ps_ret pe_bl)) pss_nil)
      (pss_one (ps_ret (pe_and (pe_cd D_root_fits (hr.mono (by decide)) (by rfl) (pa_cons (pe_callB call_len_seq (by rfl) T.b_len (by decide +kernel) (pa_cons (pv 0) pa_nil)) (pa_cons (pv 2) (pa_cons (pv 3) pa_nil)))) (pe_one (pe_cmpR op_ne (pe_cd D_summed (hr.mono (by decide)) (by rfl) (pa_cons (pv 0) (pa_cons (pv 2) (pa_cons (pv 3) pa_nil)))) pe_int (nomark _))))))))), fn_body 2 rfl so rr q ?_⟩
              try dsimp only [cxOf, Cx.nox, Cx.wish]
              array_get_dec
              refine are_lengths_go hl1 ?_
              rw [eb1, ← eb, hb]
              array_get_dec
              refine is_whole_go pa ?_
              rw [ha]
              array_get_dec
              exact rr_dat k1
          · have k1 : Φ (.bl false) S := by
              match ds, h2, k with
              | [], _, k => exact k
              | [_], _, k => exact k
              | [_, _], h, _ => exact absurd rfl h
              | _ :: _ :: _ :: _, _, k => exact k
            refine ⟨_, PSs.nox (pss_cons (ps_if (PW.pt (pw_or (pt_not (pt_val (pe_cd D_are_lengths (hr.mono (by decide)) (by rfl) (pa_cons (pv 0) pa_nil)))) (pw_or (pt_not (pt_val (pe_callB call_isi (by rfl) T.b_isinstance (by decide +kernel) (pa_cons (pv 1) (pa_cons (pe_bltn (v := .ty "tuple") (by rfl) T.b_tuple (by decide +kernel) rfl) pa_nil))))) (pw_or1 (pt_cmpR op_ne (pe_callB call_len_seq (by rfl) T.b_len (by decide +kernel) (pa_cons (pv 1) pa_nil)) pe_int (nomark _)))))) (pss_one (ps_ret pe_bl)) pss_nil)
      (pss_cons (ps_asg (pv 1) (pg_tup rfl (pgs_cons (pg_name (i := 2) sc_shows_away.nd rfl (Or.inl rfl)) (pgs_cons (pg_name (i := 3) sc_shows_away.nd rfl (Or.inl rfl)) pgs_nil))))
      (pss_cons (ps_if (PW.pt (pw_or (pt_not (pt_val (pe_cd D_is_whole (hr.mono (by decide)) (by rfl) (pa_cons (pv 2) pa_nil)))) (pw_or (pt_cmpR op_lt (pv 2) pe_int (nomark _)) (pw_or (pt_not (pt_val (pe_cd D_is_whole (hr.mono (by decide)) (by rfl) (pa_cons (pv 3) pa_nil)))) (pw_or (pt_cmpR op_lt (pv 3) pe_int (nomark _)) (pw_or1 (pt_cmpR op_ge (pv 3) (pv 2) (nomark _)))))))) (pss_one (ps_ret pe_bl)) pss_nil)
      (pss_one (ps_ret (pe_and (pe_cd D_root_fits (hr.mono (by decide)) (by rfl) (pa_cons (pe_callB call_len_seq (by rfl) T.b_len (by decide +kernel) (pa_cons (pv 0) pa_nil)) (pa_cons (pv 2) (pa_cons (pv 3) pa_nil)))) (pe_one (pe_cmpR op_ne (pe_cd D_summed (hr.mono (by decide)) (by rfl) (pa_cons (pv 0) (pa_cons (pv 2) (pa_cons (pv 3) pa_nil)))) pe_int (nomark _))))))))), fn_body 2 rfl so rr q ?_⟩
            try dsimp only [cxOf, Cx.nox, Cx.wish]
            array_get_dec
            refine are_lengths_go hl1 ?_
            rw [eb1, ← eb, hb]
            array_get_dec
            · exact rr_dat k1
            · rename_i h3
              omega
        · have pl := Ck.pd_Pl hp
          rw [hi2] at k
          refine ⟨_, PSs.nox (pss_cons (ps_if (PW.pt (pw_or (pt_not (pt_val (pe_cd D_are_lengths (hr.mono (by decide)) (by rfl) (pa_cons (pv 0) pa_nil)))) (pw_or (pt_not (pt_val (pe_callB call_isi (by rfl) T.b_isinstance (by decide +kernel) (pa_cons (pv 1) (pa_cons (pe_bltn (v := .ty "tuple") (by rfl) T.b_tuple (by decide +kernel) rfl) pa_nil))))) (pw_or1 (pt_cmpR op_ne (pe_callB call_len_seq (by rfl) T.b_len (by decide +kernel) (pa_cons (pv 1) pa_nil)) pe_int (nomark _)))))) (pss_one (ps_ret pe_bl)) pss_nil)
      (pss_cons (ps_asg (pv 1) (pg_tup rfl (pgs_cons (pg_name (i := 2) sc_shows_away.nd rfl (Or.inl rfl)) (pgs_cons (pg_name (i := 3) sc_shows_away.nd rfl (Or.inl rfl)) pgs_nil))))
      (pss_cons (ps_if (PW.pt (pw_or (pt_not (pt_val (pe_cd D_is_whole (hr.mono (by decide)) (by rfl) (pa_cons (pv 2) pa_nil)))) (pw_or (pt_cmpR op_lt (pv 2) pe_int (nomark _)) (pw_or (pt_not (pt_val (pe_cd D_is_whole (hr.mono (by decide)) (by rfl) (pa_cons (pv 3) pa_nil)))) (pw_or (pt_cmpR op_lt (pv 3) pe_int (nomark _)) (pw_or1 (pt_cmpR op_ge (pv 3) (pv 2) (nomark _)))))))) (pss_one (ps_ret pe_bl)) pss_nil)
      (pss_one (ps_ret (pe_and (pe_cd D_root_fits (hr.mono (by decide)) (by rfl) (pa_cons (pe_callB call_len_seq (by rfl) T.b_len (by decide +kernel) (pa_cons (pv 0) pa_nil)) (pa_cons (pv 2) (pa_cons (pv 3) pa_nil)))) (pe_one (pe_cmpR op_ne (pe_cd D_summed (hr.mono (by decide)) (by rfl) (pa_cons (pv 0) (pa_cons (pv 2) (pa_cons (pv 3) pa_nil)))) pe_int (nomark _))))))))), fn_body 2 rfl so rr q ?_⟩
          try dsimp only [cxOf, Cx.nox, Cx.wish]
          array_get_dec
          refine are_lengths_go hl1 ?_
          rw [eb1, ← eb, hb]
          array_get_dec
          · exact rr_dat k
          · rename_i h3
            rw [hn2] at h3
            cases h3
    · have eb : Ck.lensB l = false := by
        unfold Ck.lensB
        rw [hi]
      unfold Ck.awayL at k
      rw [eb] at k
      rcases tup_cases p with ⟨ds, hi2, ht2⟩ | ⟨hi2, hn2⟩
      · replace rr := plain2 ht2 rr
        refine ⟨_, PSs.nox (pss_cons (ps_if (PW.pt (pw_or (pt_not (pt_val (pe_cd D_are_lengths (hr.mono (by decide)) (by rfl) (pa_cons (pv 0) pa_nil)))) (pw_or (pt_not (pt_val (pe_callB call_isi (by rfl) T.b_isinstance (by decide +kernel) (pa_cons (pv 1) (pa_cons (pe_bltn (v := .ty "tuple") (by rfl) T.b_tuple (by decide +kernel) rfl) pa_nil))))) (pw_or1 (pt_cmpR op_ne (pe_callB call_len_seq (by rfl) T.b_len (by decide +kernel) (pa_cons (pv 1) pa_nil)) pe_int (nomark _)))))) (pss_one (ps_ret pe_bl)) pss_nil)
      (pss_cons (ps_asg (pv 1) (pg_tup rfl (pgs_cons (pg_name (i := 2) sc_shows_away.nd rfl (Or.inl rfl)) (pgs_cons (pg_name (i := 3) sc_shows_away.nd rfl (Or.inl rfl)) pgs_nil))))
      (pss_cons (ps_if (PW.pt (pw_or (pt_not (pt_val (pe_cd D_is_whole (hr.mono (by decide)) (by rfl) (pa_cons (pv 2) pa_nil)))) (pw_or (pt_cmpR op_lt (pv 2) pe_int (nomark _)) (pw_or (pt_not (pt_val (pe_cd D_is_whole (hr.mono (by decide)) (by rfl) (pa_cons (pv 3) pa_nil)))) (pw_or (pt_cmpR op_lt (pv 3) pe_int (nomark _)) (pw_or1 (pt_cmpR op_ge (pv 3) (pv 2) (nomark _)))))))) (pss_one (ps_ret pe_bl)) pss_nil)
      (pss_one (ps_ret (pe_and (pe_cd D_root_fits (hr.mono (by decide)) (by rfl) (pa_cons (pe_callB call_len_seq (by rfl) T.b_len (by decide +kernel) (pa_cons (pv 0) pa_nil)) (pa_cons (pv 2) (pa_cons (pv 3) pa_nil)))) (pe_one (pe_cmpR op_ne (pe_cd D_summed (hr.mono (by decide)) (by rfl) (pa_cons (pv 0) (pa_cons (pv 2) (pa_cons (pv 3) pa_nil)))) pe_int (nomark _))))))))), fn_body 2 rfl so rr q ?_⟩
        try dsimp only [cxOf, Cx.nox, Cx.wish]
        array_get_dec
        refine are_lengths_go hl ?_
        rw [eb]
        array_get_dec
        exact rr_dat k
      · have pl := Ck.pd_Pl hp
        refine ⟨_, PSs.nox (pss_cons (ps_if (PW.pt (pw_or (pt_not (pt_val (pe_cd D_are_lengths (hr.mono (by decide)) (by rfl) (pa_cons (pv 0) pa_nil)))) (pw_or (pt_not (pt_val (pe_callB call_isi (by rfl) T.b_isinstance (by decide +kernel) (pa_cons (pv 1) (pa_cons (pe_bltn (v := .ty "tuple") (by rfl) T.b_tuple (by decide +kernel) rfl) pa_nil))))) (pw_or1 (pt_cmpR op_ne (pe_callB call_len_seq (by rfl) T.b_len (by decide +kernel) (pa_cons (pv 1) pa_nil)) pe_int (nomark _)))))) (pss_one (ps_ret pe_bl)) pss_nil)
      (pss_cons (ps_asg (pv 1) (pg_tup rfl (pgs_cons (pg_name (i := 2) sc_shows_away.nd rfl (Or.inl rfl)) (pgs_cons (pg_name (i := 3) sc_shows_away.nd rfl (Or.inl rfl)) pgs_nil))))
      (pss_cons (ps_if (PW.pt (pw_or (pt_not (pt_val (pe_cd D_is_whole (hr.mono (by decide)) (by rfl) (pa_cons (pv 2) pa_nil)))) (pw_or (pt_cmpR op_lt (pv 2) pe_int (nomark _)) (pw_or (pt_not (pt_val (pe_cd D_is_whole (hr.mono (by decide)) (by rfl) (pa_cons (pv 3) pa_nil)))) (pw_or (pt_cmpR op_lt (pv 3) pe_int (nomark _)) (pw_or1 (pt_cmpR op_ge (pv 3) (pv 2) (nomark _)))))))) (pss_one (ps_ret pe_bl)) pss_nil)
      (pss_one (ps_ret (pe_and (pe_cd D_root_fits (hr.mono (by decide)) (by rfl) (pa_cons (pe_callB call_len_seq (by rfl) T.b_len (by decide +kernel) (pa_cons (pv 0) pa_nil)) (pa_cons (pv 2) (pa_cons (pv 3) pa_nil)))) (pe_one (pe_cmpR op_ne (pe_cd D_summed (hr.mono (by decide)) (by rfl) (pa_cons (pv 0) (pa_cons (pv 2) (pa_cons (pv 3) pa_nil)))) pe_int (nomark _))))))))), fn_body 2 rfl so rr q ?_⟩
        try dsimp only [cxOf, Cx.nox, Cx.wish]
        array_get_dec
        refine are_lengths_go hl ?_
        rw [eb]
        array_get_dec
        exact rr_dat k
end
end K34

namespace K34
open PySem PySem.Spec PyProof.Rows L2 Evl Dl
def homeL (l p : D) : Bool := Ck.lensB l && (Ck.ringsB ((Ck.lensOf l).length : Nat) p && decide (Ck.putAll (List.replicate (Ck.lensOf l).length 0) (Ck.ringsOf p) = Ck.lensOf l))
def sd_shows_home : Sd := fun rs S Φ => ∃ l p, rs = [.dat l, .dat p] ∧ Ck.pd l = true ∧ Ck.pd p = true ∧ few p ∧ Φ (.bl (homeL l p)) S
theorem rep_zero (n : Nat) : (List.replicate n [D.int 0]).flatten = (List.replicate n (0 : Int)).map .int := by
  induction n with
  | zero => rfl
  | succ n ih => rw [List.replicate_succ, List.replicate_succ, List.flatten_cons, ih, List.map_cons]; rfl
theorem items_some {d : D} {ds : List D} (h : Ck.items d = some ds) : d = .tup ds ∨ d = .ftup ds := by
  cases d <;> first | cases h; exact .inl rfl | cases h; exact .inr rfl | cases h
theorem rings_items {n : Int} {p : D} (h : Ck.ringsB n p = true) : ∃ ds, (p = .tup ds ∨ p = .ftup ds) ∧ Ck.items p = some ds ∧ ds.all (Ck.ringB n) = true := by
  unfold Ck.ringsB at h
  cases e : Ck.items p with
  | none => rw [e] at h; cases h
  | some ds =>
    rw [e] at h
    exact ⟨ds, items_some e, rfl, h⟩
section
variable {P : Program} {w : World} {K : PySem.W.Frag} {mg : Str → Option Value} {base : Heap} {f : Addr} {fd : FuncData}
theorem ok_shows_home (F : FnP K "shows_home" s_shows_home f fd) (T : Txt K mg) (D_are_lengths : Dn P w K mg base 3 "are_lengths" ["thing"] (lift K sd_are_lengths)) (D_are_rings : Dn P w K mg base 4 "are_rings" ["thing", "many"] (lift K sd_are_rings)) (D_with_rings : Dn P w K mg base 1 "with_rings" ["lengths", "rings"] (lift K sd_with_rings)) : FnOk P w K mg base CX0 5 f fd ["lengths", "paper"] (lift K sd_shows_home) := by
  refine F.ok sc_shows_home (fun vs H Q E h => ?_) (fun cdv A outer s H vs Q E hr h => ?_)
  · obtain ⟨A, S, rs, Φ, so, rr, h, _⟩ := h
    obtain ⟨l, p, rfl, hl, hp, hf, k⟩ := h
    exact (Paired.length rr).symm
  · obtain ⟨A, S, rs, Φ, so, rr, h, q⟩ := h
    obtain ⟨l, p, rfl, hl, hp, hf, k⟩ := h
    rcases tup_cases l with ⟨ds, hi, ht⟩ | ⟨hi, hn⟩
    · have el : Ck.lensOf l = ds.map Ck.intOf := by
        unfold Ck.lensOf
        rw [hi]
        rfl
      have eb : Ck.lensB l = (Ck.isMany (ds.length : Nat) && ds.all Ck.isWh) := by
        unfold Ck.lensB
        rw [hi]
      have hl1 : Ck.pd (.tup ds) = true := by
        rcases ht with rfl | rfl
        · exact hl
        · simpa [Ck.pd] using hl
      have eb1 : Ck.lensB (.tup ds) = (Ck.isMany (ds.length : Nat) && ds.all Ck.isWh) := rfl
      unfold homeL at k
      rw [el, List.length_map] at k
      replace rr := plain1 ht rr
      refine ⟨_, PSs.nox (pss_cons (ps_if (PW.pt (pw_or (pt_not (pt_val (pe_cd D_are_lengths (hr.mono (by decide)) (by rfl) (pa_cons (pv 0) pa_nil)))) (pw_or1 (pt_not (pt_val (pe_cd D_are_rings (hr.mono (by decide)) (by rfl) (pa_cons (pv 1) (pa_cons (pe_callB call_len_seq (by rfl) T.b_len (by decide +kernel) (pa_cons (pv 0) pa_nil)) pa_nil)))))))) (pss_one (ps_ret pe_bl)) pss_nil)
      (pss_one (ps_ret (pe_cmpR (op_eqD hr.units) (pe_cd D_with_rings (hr.mono (by decide)) (by rfl) (pa_cons (pe_op op_rep (pe_lst (pa_cons pe_int pa_nil)) (pe_callB call_len_seq (by rfl) T.b_len (by decide +kernel) (pa_cons (pv 0) pa_nil))) (pa_cons (pv 1) pa_nil))) (pe_callTy call_list_of (by rfl) T.b_list (by decide +kernel) (pa_cons (pv 0) pa_nil)) (nomark _))))), fn_body 0 rfl so rr q ?_⟩
      try dsimp only [cxOf, Cx.nox, Cx.wish]
      array_get_dec
      refine are_lengths_go hl1 ?_
      rw [eb1, ← eb]
      array_get_dec
      · rename_i hb
        rw [hb] at k
        exact rr_dat k
      · rename_i hb
        rw [eb, Bool.and_eq_true] at hb
        have lm := many_le hb.1
        refine are_rings_go hp hf (by omega) ?_
        array_get_dec
        · rename_i hr2
          rw [hr2, Bool.false_and, Bool.and_false] at k
          exact rr_dat k
        · rename_i hr2
          obtain ⟨es, het, hei, hea⟩ := rings_items hr2
          have hfe := hf es hei
          have er : Ck.ringsOf p = es.map Ck.ringOf := by
            unfold Ck.ringsOf
            rw [hei]
            rfl
          rw [eb, hb.1, hb.2, hr2, er] at k
          have ed := Ck.whs hb.2
          refine o_rep ls_dat (by omega) (by simp; omega) ?_
          rw [Int.toNat_natCast, rep_zero]
          array_get_dec
          refine ⟨_, List.replicate ds.length 0, p, es, rfl, sq_l, by rw [List.length_replicate]; omega, het, hfe, by rw [List.length_replicate]; exact hea, ?_⟩
          array_get_dec
          rw [ed]
          refine o_eqL ls_dat ls_dat ?_
          refine rr_dat ?_
          rw [List.length_map, List.length_map]
          exact k
    · have eb : Ck.lensB l = false := by
        unfold Ck.lensB
        rw [hi]
      unfold homeL at k
      rw [eb] at k
      refine ⟨_, PSs.nox (pss_cons (ps_if (PW.pt (pw_or (pt_not (pt_val (pe_cd D_are_lengths (hr.mono (by decide)) (by rfl) (pa_cons (pv 0) pa_nil)))) (pw_or1 (pt_not (pt_val (pe_cd D_are_rings (hr.mono (by decide)) (by rfl) (pa_cons (pv 1) (pa_cons (pe_callB call_len_seq (by rfl) T.b_len (by decide +kernel) (pa_cons (pv 0) pa_nil)) pa_nil)))))))) (pss_one (ps_ret pe_bl)) pss_nil)
      (pss_one (ps_ret (pe_cmpR (op_eqD hr.units) (pe_cd D_with_rings (hr.mono (by decide)) (by rfl) (pa_cons (pe_op op_rep (pe_lst (pa_cons pe_int pa_nil)) (pe_callB call_len_seq (by rfl) T.b_len (by decide +kernel) (pa_cons (pv 0) pa_nil))) (pa_cons (pv 1) pa_nil))) (pe_callTy call_list_of (by rfl) T.b_list (by decide +kernel) (pa_cons (pv 0) pa_nil)) (nomark _))))), fn_body 0 rfl so rr q ?_⟩
      try dsimp only [cxOf, Cx.nox, Cx.wish]
      array_get_dec
      refine are_lengths_go hl ?_
      rw [eb]
      array_get_dec
      exact rr_dat k
end
end K34
namespace K34
open PySem PySem.Spec PyProof.Rows L2 Evl Dl
def sd_holds : Sd := fun rs S Φ => ∃ c p, rs = [.dat c, .dat p] ∧ Ck.pd c = true ∧ Ck.pd p = true ∧ few p ∧ (∀ y, Ck.items c = some [.str "away", y] → Ck.small y ∧ Ck.lowM p) ∧ (∀ x y ds, Ck.items c = some (.str x :: y :: ds) → ds ≠ [] → x ≠ "least" ∧ x ≠ "fewest") ∧ Φ (.bl (Ck.homeB c p || Ck.awayB c p)) S
section
variable {P : Program} {w : World} {K : PySem.W.Frag} {mg : Str → Option Value} {base : Heap} {f : Addr} {fd : FuncData}
theorem ok_holds (F : FnP K "holds" s_holds f fd) (T : Txt K mg) (D_shows_away : Dn P w K mg base 5 "shows_away" ["lengths", "paper"] (lift K sd_shows_away)) (D_shows_home : Dn P w K mg base 5 "shows_home" ["lengths", "paper"] (lift K sd_shows_home)) : FnOk P w K mg base CX0 6 f fd ["claim", "paper"] (lift K sd_holds) := by
  refine F.ok sc_holds (fun vs H Q E h => ?_) (fun cdv A outer s H vs Q E hr h => ?_)
  · obtain ⟨A, S, rs, Φ, so, rr, h, _⟩ := h
    obtain ⟨c, p, rfl, hc, hp, hf, hn, hw, k⟩ := h
    exact (Paired.length rr).symm
  · obtain ⟨A, S, rs, Φ, so, rr, h, q⟩ := h
    obtain ⟨c, p, rfl, hc, hp, hf, hn, hw, k⟩ := h
    rcases tup_cases c with ⟨ds, hi, ht⟩ | ⟨hi, hn2⟩
    · replace rr := plain1 ht rr
      have pi := pd_items hc ht
      unfold Ck.homeB Ck.awayB at k
      rw [hi] at k
      match ds, hi, pi, k, rr with
      | [], hi, pi, k, rr =>
        refine ⟨_, PSs.nox (pss_cons (ps_if (PW.pt (pw_or (pt_not (pt_val (pe_callB call_isi (by rfl) T.b_isinstance (by decide +kernel) (pa_cons (pv 0) (pa_cons (pe_bltn (v := .ty "tuple") (by rfl) T.b_tuple (by decide +kernel) rfl) pa_nil))))) (pw_or (pt_cmpR op_eq (pe_callB call_len_seq (by rfl) T.b_len (by decide +kernel) (pa_cons (pv 0) pa_nil)) pe_int (nomark _)) (pw_or1 (pt_not (pt_val (pe_callB call_isi (by rfl) T.b_isinstance (by decide +kernel) (pa_cons (pe_ix ix_tup (pv 0) pe_int (fun _ _ => rfl)) (pa_cons (pe_bltn (v := .ty "str") (by rfl) T.b_str (by decide +kernel) rfl) pa_nil))))))))) (pss_one (ps_ret pe_bl)) pss_nil)
      (pss_cons (ps_set (i := 2) sc_holds.nd rfl (Or.inl rfl) (pe_ix ix_tup (pv 0) pe_int (fun _ _ => rfl)))
      (pss_cons (ps_if (PW.pt (pw_and (pt_cmpR op_eq (pv 2) pe_str (nomark _)) (pw_and1 (pt_cmpR op_eq (pe_callB call_len_seq (by rfl) T.b_len (by decide +kernel) (pa_cons (pv 0) pa_nil)) pe_int (nomark _))))) (pss_one (ps_ret (pe_cd D_shows_home (hr.mono (by decide)) (by rfl) (pa_cons (pe_ix ix_tup (pv 0) pe_int (fun _ _ => rfl)) (pa_cons (pv 1) pa_nil))))) pss_nil)
      (pss_cons (ps_if (PW.pt (pw_and (pt_cmpR op_eq (pv 2) pe_str (nomark _)) (pw_and1 (pt_cmpR op_eq (pe_callB call_len_seq (by rfl) T.b_len (by decide +kernel) (pa_cons (pv 0) pa_nil)) pe_int (nomark _))))) (pss_one (ps_ret (pe_cd D_shows_away (hr.mono (by decide)) (by rfl) (pa_cons (pe_ix ix_tup (pv 0) pe_int (fun _ _ => rfl)) (pa_cons (pv 1) pa_nil))))) pss_nil)
      (pss_cons (ps_if (PW.pt (pw_and (pt_cmpR op_eq (pv 2) pe_str (nomark _)) (pw_and1 (pt_cmpR op_eq (pe_callB call_len_seq (by rfl) T.b_len (by decide +kernel) (pa_cons (pv 0) pa_nil)) pe_int (nomark _))))) (pss_one ps_never) pss_nil)
      (pss_cons (ps_if (PW.pt (pw_and (pt_cmpR op_eq (pv 2) pe_str (nomark _)) (pw_and1 (pt_cmpR op_eq (pe_callB call_len_seq (by rfl) T.b_len (by decide +kernel) (pa_cons (pv 0) pa_nil)) pe_int (nomark _))))) (pss_one ps_never) pss_nil)
      (pss_one (ps_ret pe_bl)))))))), fn_body 1 rfl so rr q ?_⟩
        try dsimp only [cxOf, Cx.nox, Cx.wish]
        array_get_dec
        exact rr_dat k
      | x :: ds, hi, pi, k, rr =>
        have px := pi x (by simp)
        have plx := Ck.pd_Pl px
        by_cases hs : ∃ z, x = .str z
        · obtain ⟨z, rfl⟩ := hs
          have k0 : ∀ y, ds = [y] → Φ (.bl ((decide (z = "home") && homeL y p) || (decide (z = "away") && Ck.awayL y p))) S := fun y e => by
            subst e
            exact k
          have k1 : ds.length ≠ 1 → Φ (.bl false) S := fun e => by
            match ds, e, k with
            | [], _, k => exact k
            | [_], e, _ => exact absurd rfl e
            | _ :: _ :: _, _, k => exact k
          by_cases hl : ds.length = 1
          · obtain ⟨y, rfl⟩ := List.length_eq_one_iff.mp hl
            have py := pi y (by simp)
            replace k0 := k0 y rfl
            by_cases h1 : z = "home"
            · subst h1
              rw [decide_eq_true rfl, decide_eq_false (show ¬ (Str.ofString "home" = Str.ofString "away") by decide +kernel), Bool.false_and, Bool.or_false] at k0
              refine ⟨_, PSs.nox (pss_cons (ps_if (PW.pt (pw_or (pt_not (pt_val (pe_callB call_isi (by rfl) T.b_isinstance (by decide +kernel) (pa_cons (pv 0) (pa_cons (pe_bltn (v := .ty "tuple") (by rfl) T.b_tuple (by decide +kernel) rfl) pa_nil))))) (pw_or (pt_cmpR op_eq (pe_callB call_len_seq (by rfl) T.b_len (by decide +kernel) (pa_cons (pv 0) pa_nil)) pe_int (nomark _)) (pw_or1 (pt_not (pt_val (pe_callB call_isi (by rfl) T.b_isinstance (by decide +kernel) (pa_cons (pe_ix ix_tup (pv 0) pe_int (fun _ _ => rfl)) (pa_cons (pe_bltn (v := .ty "str") (by rfl) T.b_str (by decide +kernel) rfl) pa_nil))))))))) (pss_one (ps_ret pe_bl)) pss_nil)
      (pss_cons (ps_set (i := 2) sc_holds.nd rfl (Or.inl rfl) (pe_ix ix_tup (pv 0) pe_int (fun _ _ => rfl)))
      (pss_cons (ps_if (PW.pt (pw_and (pt_cmpR op_eq (pv 2) pe_str (nomark _)) (pw_and1 (pt_cmpR op_eq (pe_callB call_len_seq (by rfl) T.b_len (by decide +kernel) (pa_cons (pv 0) pa_nil)) pe_int (nomark _))))) (pss_one (ps_ret (pe_cd D_shows_home (hr.mono (by decide)) (by rfl) (pa_cons (pe_ix ix_tup (pv 0) pe_int (fun _ _ => rfl)) (pa_cons (pv 1) pa_nil))))) pss_nil)
      (pss_cons (ps_if (PW.pt (pw_and (pt_cmpR op_eq (pv 2) pe_str (nomark _)) (pw_and1 (pt_cmpR op_eq (pe_callB call_len_seq (by rfl) T.b_len (by decide +kernel) (pa_cons (pv 0) pa_nil)) pe_int (nomark _))))) (pss_one (ps_ret (pe_cd D_shows_away (hr.mono (by decide)) (by rfl) (pa_cons (pe_ix ix_tup (pv 0) pe_int (fun _ _ => rfl)) (pa_cons (pv 1) pa_nil))))) pss_nil)
      (pss_cons (ps_if (PW.pt (pw_and (pt_cmpR op_eq (pv 2) pe_str (nomark _)) (pw_and1 (pt_cmpR op_eq (pe_callB call_len_seq (by rfl) T.b_len (by decide +kernel) (pa_cons (pv 0) pa_nil)) pe_int (nomark _))))) (pss_one ps_never) pss_nil)
      (pss_cons (ps_if (PW.pt (pw_and (pt_cmpR op_eq (pv 2) pe_str (nomark _)) (pw_and1 (pt_cmpR op_eq (pe_callB call_len_seq (by rfl) T.b_len (by decide +kernel) (pa_cons (pv 0) pa_nil)) pe_int (nomark _))))) (pss_one ps_never) pss_nil)
      (pss_one (ps_ret pe_bl)))))))), fn_body 1 rfl so rr q ?_⟩
              try dsimp only [cxOf, Cx.nox, Cx.wish]
              array_get_dec
              refine ⟨y, p, rfl, py, hp, hf, ?_⟩
              array_get_dec
              exact rr_dat k0
            · rw [decide_eq_false h1, Bool.false_and, Bool.false_or] at k0
              by_cases h2 : z = "away"
              · subst h2
                obtain ⟨hsm, hlm⟩ := hn y hi
                rw [decide_eq_true rfl] at k0
                refine ⟨_, PSs.nox (pss_cons (ps_if (PW.pt (pw_or (pt_not (pt_val (pe_callB call_isi (by rfl) T.b_isinstance (by decide +kernel) (pa_cons (pv 0) (pa_cons (pe_bltn (v := .ty "tuple") (by rfl) T.b_tuple (by decide +kernel) rfl) pa_nil))))) (pw_or (pt_cmpR op_eq (pe_callB call_len_seq (by rfl) T.b_len (by decide +kernel) (pa_cons (pv 0) pa_nil)) pe_int (nomark _)) (pw_or1 (pt_not (pt_val (pe_callB call_isi (by rfl) T.b_isinstance (by decide +kernel) (pa_cons (pe_ix ix_tup (pv 0) pe_int (fun _ _ => rfl)) (pa_cons (pe_bltn (v := .ty "str") (by rfl) T.b_str (by decide +kernel) rfl) pa_nil))))))))) (pss_one (ps_ret pe_bl)) pss_nil)
      (pss_cons (ps_set (i := 2) sc_holds.nd rfl (Or.inl rfl) (pe_ix ix_tup (pv 0) pe_int (fun _ _ => rfl)))
      (pss_cons (ps_if (PW.pt (pw_and (pt_cmpR op_eq (pv 2) pe_str (nomark _)) (pw_and1 (pt_cmpR op_eq (pe_callB call_len_seq (by rfl) T.b_len (by decide +kernel) (pa_cons (pv 0) pa_nil)) pe_int (nomark _))))) (pss_one (ps_ret (pe_cd D_shows_home (hr.mono (by decide)) (by rfl) (pa_cons (pe_ix ix_tup (pv 0) pe_int (fun _ _ => rfl)) (pa_cons (pv 1) pa_nil))))) pss_nil)
      (pss_cons (ps_if (PW.pt (pw_and (pt_cmpR op_eq (pv 2) pe_str (nomark _)) (pw_and1 (pt_cmpR op_eq (pe_callB call_len_seq (by rfl) T.b_len (by decide +kernel) (pa_cons (pv 0) pa_nil)) pe_int (nomark _))))) (pss_one (ps_ret (pe_cd D_shows_away (hr.mono (by decide)) (by rfl) (pa_cons (pe_ix ix_tup (pv 0) pe_int (fun _ _ => rfl)) (pa_cons (pv 1) pa_nil))))) pss_nil)
      (pss_cons (ps_if (PW.pt (pw_and (pt_cmpR op_eq (pv 2) pe_str (nomark _)) (pw_and1 (pt_cmpR op_eq (pe_callB call_len_seq (by rfl) T.b_len (by decide +kernel) (pa_cons (pv 0) pa_nil)) pe_int (nomark _))))) (pss_one ps_never) pss_nil)
      (pss_cons (ps_if (PW.pt (pw_and (pt_cmpR op_eq (pv 2) pe_str (nomark _)) (pw_and1 (pt_cmpR op_eq (pe_callB call_len_seq (by rfl) T.b_len (by decide +kernel) (pa_cons (pv 0) pa_nil)) pe_int (nomark _))))) (pss_one ps_never) pss_nil)
      (pss_one (ps_ret pe_bl)))))))), fn_body 1 rfl so rr q ?_⟩
                try dsimp only [cxOf, Cx.nox, Cx.wish]
                array_get_dec
                refine ⟨y, p, rfl, py, hp, hsm, hlm, ?_⟩
                array_get_dec
                exact rr_dat k0
              · rw [decide_eq_false h2] at k0
                refine ⟨_, PSs.nox (pss_cons (ps_if (PW.pt (pw_or (pt_not (pt_val (pe_callB call_isi (by rfl) T.b_isinstance (by decide +kernel) (pa_cons (pv 0) (pa_cons (pe_bltn (v := .ty "tuple") (by rfl) T.b_tuple (by decide +kernel) rfl) pa_nil))))) (pw_or (pt_cmpR op_eq (pe_callB call_len_seq (by rfl) T.b_len (by decide +kernel) (pa_cons (pv 0) pa_nil)) pe_int (nomark _)) (pw_or1 (pt_not (pt_val (pe_callB call_isi (by rfl) T.b_isinstance (by decide +kernel) (pa_cons (pe_ix ix_tup (pv 0) pe_int (fun _ _ => rfl)) (pa_cons (pe_bltn (v := .ty "str") (by rfl) T.b_str (by decide +kernel) rfl) pa_nil))))))))) (pss_one (ps_ret pe_bl)) pss_nil)
      (pss_cons (ps_set (i := 2) sc_holds.nd rfl (Or.inl rfl) (pe_ix ix_tup (pv 0) pe_int (fun _ _ => rfl)))
      (pss_cons (ps_if (PW.pt (pw_and (pt_cmpR op_eq (pv 2) pe_str (nomark _)) (pw_and1 (pt_cmpR op_eq (pe_callB call_len_seq (by rfl) T.b_len (by decide +kernel) (pa_cons (pv 0) pa_nil)) pe_int (nomark _))))) (pss_one (ps_ret (pe_cd D_shows_home (hr.mono (by decide)) (by rfl) (pa_cons (pe_ix ix_tup (pv 0) pe_int (fun _ _ => rfl)) (pa_cons (pv 1) pa_nil))))) pss_nil)
      (pss_cons (ps_if (PW.pt (pw_and (pt_cmpR op_eq (pv 2) pe_str (nomark _)) (pw_and1 (pt_cmpR op_eq (pe_callB call_len_seq (by rfl) T.b_len (by decide +kernel) (pa_cons (pv 0) pa_nil)) pe_int (nomark _))))) (pss_one (ps_ret (pe_cd D_shows_away (hr.mono (by decide)) (by rfl) (pa_cons (pe_ix ix_tup (pv 0) pe_int (fun _ _ => rfl)) (pa_cons (pv 1) pa_nil))))) pss_nil)
      (pss_cons (ps_if (PW.pt (pw_and (pt_cmpR op_eq (pv 2) pe_str (nomark _)) (pw_and1 (pt_cmpR op_eq (pe_callB call_len_seq (by rfl) T.b_len (by decide +kernel) (pa_cons (pv 0) pa_nil)) pe_int (nomark _))))) (pss_one ps_never) pss_nil)
      (pss_cons (ps_if (PW.pt (pw_and (pt_cmpR op_eq (pv 2) pe_str (nomark _)) (pw_and1 (pt_cmpR op_eq (pe_callB call_len_seq (by rfl) T.b_len (by decide +kernel) (pa_cons (pv 0) pa_nil)) pe_int (nomark _))))) (pss_one ps_never) pss_nil)
      (pss_one (ps_ret pe_bl)))))))), fn_body 1 rfl so rr q ?_⟩
                try dsimp only [cxOf, Cx.nox, Cx.wish]
                array_get_dec
                all_goals first | exact rr_dat k0 | omega
          · have k2 := k1 hl
            have hl2 : ¬ ((D.str z :: ds).length : Int) = 2 := by
              rw [List.length_cons]
              omega
            have nl : ((D.str z :: ds).length : Int) = 3 ∨ ((D.str z :: ds).length : Int) = 5 → z ≠ "least" ∧ z ≠ "fewest" := fun h => by
              match ds, hi, h, hl with
              | [], hi, h, hl => simp at h
              | [_], hi, h, hl => exact absurd rfl hl
              | y :: a :: es, hi, h, hl => exact hw z y (a :: es) hi nofun
            refine ⟨_, PSs.nox (pss_cons (ps_if (PW.pt (pw_or (pt_not (pt_val (pe_callB call_isi (by rfl) T.b_isinstance (by decide +kernel) (pa_cons (pv 0) (pa_cons (pe_bltn (v := .ty "tuple") (by rfl) T.b_tuple (by decide +kernel) rfl) pa_nil))))) (pw_or (pt_cmpR op_eq (pe_callB call_len_seq (by rfl) T.b_len (by decide +kernel) (pa_cons (pv 0) pa_nil)) pe_int (nomark _)) (pw_or1 (pt_not (pt_val (pe_callB call_isi (by rfl) T.b_isinstance (by decide +kernel) (pa_cons (pe_ix ix_tup (pv 0) pe_int (fun _ _ => rfl)) (pa_cons (pe_bltn (v := .ty "str") (by rfl) T.b_str (by decide +kernel) rfl) pa_nil))))))))) (pss_one (ps_ret pe_bl)) pss_nil)
      (pss_cons (ps_set (i := 2) sc_holds.nd rfl (Or.inl rfl) (pe_ix ix_tup (pv 0) pe_int (fun _ _ => rfl)))
      (pss_cons (ps_if (PW.pt (pw_and (pt_cmpR op_eq (pv 2) pe_str (nomark _)) (pw_and1 (pt_cmpR op_eq (pe_callB call_len_seq (by rfl) T.b_len (by decide +kernel) (pa_cons (pv 0) pa_nil)) pe_int (nomark _))))) (pss_one (ps_ret (pe_cd D_shows_home (hr.mono (by decide)) (by rfl) (pa_cons (pe_ix ix_tup (pv 0) pe_int (fun _ _ => rfl)) (pa_cons (pv 1) pa_nil))))) pss_nil)
      (pss_cons (ps_if (PW.pt (pw_and (pt_cmpR op_eq (pv 2) pe_str (nomark _)) (pw_and1 (pt_cmpR op_eq (pe_callB call_len_seq (by rfl) T.b_len (by decide +kernel) (pa_cons (pv 0) pa_nil)) pe_int (nomark _))))) (pss_one (ps_ret (pe_cd D_shows_away (hr.mono (by decide)) (by rfl) (pa_cons (pe_ix ix_tup (pv 0) pe_int (fun _ _ => rfl)) (pa_cons (pv 1) pa_nil))))) pss_nil)
      (pss_cons (ps_if (PW.pt (pw_and (pt_cmpR op_eq (pv 2) pe_str (nomark _)) (pw_and1 (pt_cmpR op_eq (pe_callB call_len_seq (by rfl) T.b_len (by decide +kernel) (pa_cons (pv 0) pa_nil)) pe_int (nomark _))))) (pss_one ps_never) pss_nil)
      (pss_cons (ps_if (PW.pt (pw_and (pt_cmpR op_eq (pv 2) pe_str (nomark _)) (pw_and1 (pt_cmpR op_eq (pe_callB call_len_seq (by rfl) T.b_len (by decide +kernel) (pa_cons (pv 0) pa_nil)) pe_int (nomark _))))) (pss_one ps_never) pss_nil)
      (pss_one (ps_ret pe_bl)))))))), fn_body 1 rfl so rr q ?_⟩
            try dsimp only [cxOf, Cx.nox, Cx.wish]
            array_get_dec
            all_goals first
              | exact rr_dat k2
              | (rename_i h1 h2; exact absurd h1 (nl (.inl h2)).1)
              | (rename_i h1 h2; exact absurd h1 (nl (.inr h2)).2)
        · have k1 : Φ (.bl false) S := by
            cases x with
            | str z => exact absurd ⟨z, rfl⟩ hs
            | _ => exact k
          have hx : x.isStr = false := by
            cases x with
            | str z => exact absurd ⟨z, rfl⟩ hs
            | _ => rfl
          refine ⟨_, PSs.nox (pss_cons (ps_if (PW.pt (pw_or (pt_not (pt_val (pe_callB call_isi (by rfl) T.b_isinstance (by decide +kernel) (pa_cons (pv 0) (pa_cons (pe_bltn (v := .ty "tuple") (by rfl) T.b_tuple (by decide +kernel) rfl) pa_nil))))) (pw_or (pt_cmpR op_eq (pe_callB call_len_seq (by rfl) T.b_len (by decide +kernel) (pa_cons (pv 0) pa_nil)) pe_int (nomark _)) (pw_or1 (pt_not (pt_val (pe_callB call_isi (by rfl) T.b_isinstance (by decide +kernel) (pa_cons (pe_ix ix_tup (pv 0) pe_int (fun _ _ => rfl)) (pa_cons (pe_bltn (v := .ty "str") (by rfl) T.b_str (by decide +kernel) rfl) pa_nil))))))))) (pss_one (ps_ret pe_bl)) pss_nil)
      (pss_cons (ps_set (i := 2) sc_holds.nd rfl (Or.inl rfl) (pe_ix ix_tup (pv 0) pe_int (fun _ _ => rfl)))
      (pss_cons (ps_if (PW.pt (pw_and (pt_cmpR op_eq (pv 2) pe_str (nomark _)) (pw_and1 (pt_cmpR op_eq (pe_callB call_len_seq (by rfl) T.b_len (by decide +kernel) (pa_cons (pv 0) pa_nil)) pe_int (nomark _))))) (pss_one (ps_ret (pe_cd D_shows_home (hr.mono (by decide)) (by rfl) (pa_cons (pe_ix ix_tup (pv 0) pe_int (fun _ _ => rfl)) (pa_cons (pv 1) pa_nil))))) pss_nil)
      (pss_cons (ps_if (PW.pt (pw_and (pt_cmpR op_eq (pv 2) pe_str (nomark _)) (pw_and1 (pt_cmpR op_eq (pe_callB call_len_seq (by rfl) T.b_len (by decide +kernel) (pa_cons (pv 0) pa_nil)) pe_int (nomark _))))) (pss_one (ps_ret (pe_cd D_shows_away (hr.mono (by decide)) (by rfl) (pa_cons (pe_ix ix_tup (pv 0) pe_int (fun _ _ => rfl)) (pa_cons (pv 1) pa_nil))))) pss_nil)
      (pss_cons (ps_if (PW.pt (pw_and (pt_cmpR op_eq (pv 2) pe_str (nomark _)) (pw_and1 (pt_cmpR op_eq (pe_callB call_len_seq (by rfl) T.b_len (by decide +kernel) (pa_cons (pv 0) pa_nil)) pe_int (nomark _))))) (pss_one ps_never) pss_nil)
      (pss_cons (ps_if (PW.pt (pw_and (pt_cmpR op_eq (pv 2) pe_str (nomark _)) (pw_and1 (pt_cmpR op_eq (pe_callB call_len_seq (by rfl) T.b_len (by decide +kernel) (pa_cons (pv 0) pa_nil)) pe_int (nomark _))))) (pss_one ps_never) pss_nil)
      (pss_one (ps_ret pe_bl)))))))), fn_body 1 rfl so rr q ?_⟩
          try dsimp only [cxOf, Cx.nox, Cx.wish]
          array_get_dec
          · exact rr_dat k1
          all_goals (rename_i hb; rw [hx] at hb; cases hb)
    · have pl := Ck.pd_Pl hc
      unfold Ck.homeB Ck.awayB at k
      rw [hi] at k
      refine ⟨_, PSs.nox (pss_cons (ps_if (PW.pt (pw_or (pt_not (pt_val (pe_callB call_isi (by rfl) T.b_isinstance (by decide +kernel) (pa_cons (pv 0) (pa_cons (pe_bltn (v := .ty "tuple") (by rfl) T.b_tuple (by decide +kernel) rfl) pa_nil))))) (pw_or (pt_cmpR op_eq (pe_callB call_len_seq (by rfl) T.b_len (by decide +kernel) (pa_cons (pv 0) pa_nil)) pe_int (nomark _)) (pw_or1 (pt_not (pt_val (pe_callB call_isi (by rfl) T.b_isinstance (by decide +kernel) (pa_cons (pe_ix ix_tup (pv 0) pe_int (fun _ _ => rfl)) (pa_cons (pe_bltn (v := .ty "str") (by rfl) T.b_str (by decide +kernel) rfl) pa_nil))))))))) (pss_one (ps_ret pe_bl)) pss_nil)
      (pss_cons (ps_set (i := 2) sc_holds.nd rfl (Or.inl rfl) (pe_ix ix_tup (pv 0) pe_int (fun _ _ => rfl)))
      (pss_cons (ps_if (PW.pt (pw_and (pt_cmpR op_eq (pv 2) pe_str (nomark _)) (pw_and1 (pt_cmpR op_eq (pe_callB call_len_seq (by rfl) T.b_len (by decide +kernel) (pa_cons (pv 0) pa_nil)) pe_int (nomark _))))) (pss_one (ps_ret (pe_cd D_shows_home (hr.mono (by decide)) (by rfl) (pa_cons (pe_ix ix_tup (pv 0) pe_int (fun _ _ => rfl)) (pa_cons (pv 1) pa_nil))))) pss_nil)
      (pss_cons (ps_if (PW.pt (pw_and (pt_cmpR op_eq (pv 2) pe_str (nomark _)) (pw_and1 (pt_cmpR op_eq (pe_callB call_len_seq (by rfl) T.b_len (by decide +kernel) (pa_cons (pv 0) pa_nil)) pe_int (nomark _))))) (pss_one (ps_ret (pe_cd D_shows_away (hr.mono (by decide)) (by rfl) (pa_cons (pe_ix ix_tup (pv 0) pe_int (fun _ _ => rfl)) (pa_cons (pv 1) pa_nil))))) pss_nil)
      (pss_cons (ps_if (PW.pt (pw_and (pt_cmpR op_eq (pv 2) pe_str (nomark _)) (pw_and1 (pt_cmpR op_eq (pe_callB call_len_seq (by rfl) T.b_len (by decide +kernel) (pa_cons (pv 0) pa_nil)) pe_int (nomark _))))) (pss_one ps_never) pss_nil)
      (pss_cons (ps_if (PW.pt (pw_and (pt_cmpR op_eq (pv 2) pe_str (nomark _)) (pw_and1 (pt_cmpR op_eq (pe_callB call_len_seq (by rfl) T.b_len (by decide +kernel) (pa_cons (pv 0) pa_nil)) pe_int (nomark _))))) (pss_one ps_never) pss_nil)
      (pss_one (ps_ret pe_bl)))))))), fn_body 1 rfl so rr q ?_⟩
      try dsimp only [cxOf, Cx.nox, Cx.wish]
      array_get_dec
      · exact rr_dat k
      · rename_i hb
        rw [hn2] at hb
        cases hb
end
end K34

namespace K34
open PySem PySem.Spec PyProof.Rows L2 Evl Dl
def sd_lpower : Sd := fun rs S Φ => ∃ r t m : Int, rs = [.dat (.int r), .dat (.int t), .dat (.int m)] ∧ (0 ≤ t ∧ t ≤ 1000) ∧ (2 ≤ m ∧ m < 4000000000000000000) ∧ Φ (.int (r ^ t.toNat % m)) S
theorem lpower_go {r t m : Int} {S : Store} {Φ : D → Store → Prop} (ht : 0 ≤ t ∧ t ≤ 1000) (hm : 2 ≤ m ∧ m < 4000000000000000000) (k : Φ (.int (r ^ t.toNat % m)) S) : sd_lpower [.dat (.int r), .dat (.int t), .dat (.int m)] S Φ := ⟨r, t, m, rfl, ht, hm, k⟩
def sd_lis_root : Sd := fun rs S Φ => ∃ r n m : Int, rs = [.dat (.int r), .dat (.int n), .dat (.int m)] ∧ (3 ≤ n ∧ n ≤ 256) ∧ (0 ≤ r ∧ r < 4000000000000000000) ∧ (2 ≤ m ∧ m < 4000000000000000000) ∧ Φ (.bl (Ck.fits n m r)) S
theorem lis_root_go {n m r : Int} {S : Store} {Φ : D → Store → Prop} (hn : 3 ≤ n ∧ n ≤ 256) (hr : 0 ≤ r ∧ r < 4000000000000000000) (hm : 2 ≤ m ∧ m < 4000000000000000000) (k : Φ (.bl (Ck.fits n m r)) S) : sd_lis_root [.dat (.int r), .dat (.int n), .dat (.int m)] S Φ := ⟨r, n, m, rfl, hn, hr, hm, k⟩
def sd_lcomes : Sd := fun rs S Φ => ∃ (d : D) (ls : List Int) (r m : Int), rs = [.dat d, .dat (.int r), .dat (.int m)] ∧ (d = .tup (ls.map .int) ∨ d = .ftup (ls.map .int)) ∧ ls.length ≤ 1000 ∧ (0 ≤ r ∧ r < 4000000000000000000) ∧ (2 ≤ m ∧ m < 4000000000000000000) ∧ Φ (.int (Ck.ev ls r % m)) S
section
variable {P : Program} {w : World} {K : PySem.W.Frag} {mg : Str → Option Value} {base : Heap} {f : Addr} {fd : FuncData}
theorem ok_l_power (F : FnP K "_law_power" s_l_power f fd) (T : Txt K mg)  : FnOk P w K mg base CX0 1 f fd ["_law_root_here", "_law_many_here", "_law_modulus_here"] (lift K sd_lpower) := by
  refine F.ok sc_l_power (fun vs H Q E h => ?_) (fun cdv A outer s H vs Q E hr h => ?_)
  · obtain ⟨A, S, rs, Φ, so, rr, h, _⟩ := h
    obtain ⟨r, t, m, rfl, ht, hm, k⟩ := h
    exact (Paired.length rr).symm
  · obtain ⟨A, S, rs, Φ, so, rr, h, q⟩ := h
    obtain ⟨r, t, m, rfl, ht, hm, k⟩ := h
    refine ⟨_, PSs.nox (pss_cons (ps_par (i := 3) (j := 4) (by rfl) sc_l_power.nd rfl rfl (by decide) rfl rfl (pa_cons (pe_op op_mod pe_int (pv 2)) (pa_cons (pe_op op_mod (pv 0) (pv 2)) pa_nil)) (by rfl))
      (pss_cons (ps_while PassesOwn.never (pt_cmpR op_gt (pv 1) pe_int (nomark _)) (pss_cons (ps_if (pt_cmpR op_eq (pe_op op_mod (pv 1) pe_int) pe_int (nomark _)) (pss_one (ps_set (i := 3) sc_l_power.nd rfl (Or.inl rfl) (pe_op op_mod (pe_op op_mulW (pv 3) (pv 4)) (pv 2)))) pss_nil)
        (pss_cons (ps_set (i := 4) sc_l_power.nd rfl (Or.inl rfl) (pe_op op_mod (pe_op op_mulW (pv 4) (pv 4)) (pv 2)))
        (pss_one (ps_set (i := 1) sc_l_power.nd rfl (Or.inl rfl) (pe_op op_fdivW (pv 1) pe_int))))))
      (pss_one (ps_ret (pv 3))))), fn_body 2 rfl so rr q ?_⟩
    try dsimp only [cxOf, Cx.nox, Cx.wish]
    array_get_dec
    obtain ⟨n, rfl⟩ := Int.eq_ofNat_of_zero_le ht.1
    have a0 := Int.emod_nonneg 1 (show m ≠ 0 by omega)
    have a1 := Int.emod_lt_of_pos 1 (show 0 < m by omega)
    have c0 := Int.emod_nonneg r (show m ≠ 0 by omega)
    have c1 := Int.emod_lt_of_pos r (show 0 < m by omega)
    refine ws_while (fun j ρ S' => ∃ fo ba : Int, ρ = [.dat (.int r), .dat (.int (j : Nat)), .dat (.int m), .dat (.int fo), .dat (.int ba)] ∧ S' = S ∧ (0 ≤ fo ∧ fo < m) ∧ (0 ≤ ba ∧ ba < m) ∧ fo * ba ^ j % m = r ^ n % m) n ⟨1 % m, r % m, rfl, rfl, ⟨a0, a1⟩, ⟨c0, c1⟩, ?_⟩ ?_
    · rw [Ck.mul_mod_l, Int.one_mul, Ck.pow_mod]
    rintro j ρ S' ⟨fo, ba, rfl, rfl, f0, b0, e⟩
    array_get_dec
    · rename_i h1 h2
      have q0 := Int.emod_nonneg (fo * ba) (show m ≠ 0 by omega)
      have q1 := Int.emod_lt_of_pos (fo * ba) (show 0 < m by omega)
      have p0 := Int.emod_nonneg (ba * ba) (show m ≠ 0 by omega)
      have p1 := Int.emod_lt_of_pos (ba * ba) (show 0 < m by omega)
      exact ⟨j / 2, by omega, fo * ba % m, ba * ba % m, rfl, rfl, ⟨q0, q1⟩, ⟨p0, p1⟩, (Ck.half_odd (by omega) fo ba m).trans e⟩
    · rename_i h1 h2
      have p0 := Int.emod_nonneg (ba * ba) (show m ≠ 0 by omega)
      have p1 := Int.emod_lt_of_pos (ba * ba) (show 0 < m by omega)
      exact ⟨j / 2, by omega, fo, ba * ba % m, rfl, rfl, f0, ⟨p0, p1⟩, (Ck.half_even (by omega) fo ba m).trans e⟩
    · rename_i h1
      rw [show j = 0 by omega, Int.pow_zero, Int.mul_one, Int.emod_eq_of_lt f0.1 f0.2] at e
      rw [Int.toNat_natCast, ← e] at k
      exact rr_dat k
theorem ok_l_is_root (F : FnP K "_law_is_root" s_l_is_root f fd) (T : Txt K mg) (D_l_power : Dn P w K mg base 1 "_law_power" ["_law_root_here", "_law_many_here", "_law_modulus_here"] (lift K sd_lpower)) : FnOk P w K mg base CX0 2 f fd ["_law_root_here", "_law_many_here", "_law_modulus_here"] (lift K sd_lis_root) := by
  refine F.ok sc_l_is_root (fun vs H Q E h => ?_) (fun cdv A outer s H vs Q E hr h => ?_)
  · obtain ⟨A, S, rs, Φ, so, rr, h, _⟩ := h
    obtain ⟨r, n, m, rfl, hn, hr2, hm, k⟩ := h
    exact (Paired.length rr).symm
  · obtain ⟨A, S, rs, Φ, so, rr, h, q⟩ := h
    obtain ⟨r, n, m, rfl, hn, hr2, hm, k⟩ := h
    refine ⟨_, PSs.nox (pss_cons (ps_if (pt_cmpR op_eq (pe_op op_mod (pv 1) pe_int) pe_int (nomark _)) (pss_one (ps_ret (pe_cmpR op_eq (pe_op op_mod (pe_callB (cr_sum rfl) (by rfl) T.b_sum (by decide +kernel) (pa_cons (pe_lc (own := [("_law_k", 3)]) (g := (gName 3)) (tt := tYes) rfl sc_l_is_root.nd (pi_range1 (by rfl) T.b_range (pa_cons (pv 1) pa_nil)) (blkOk_by (own := [("_law_k", 3)]) (N := ["_law_root_here", "_law_many_here", "_law_modulus_here", "_law_k", "_law_odd", "_law_base", "_law_some"]) (sc := defScope s_l_is_root) (by decide +kernel)) (fun _ _ _ _ _ => (pg_name (i := 3) sc_l_is_root.nd rfl (Or.inl rfl))) (fun _ _ _ _ _ => pts_nil) (fun _ _ _ _ _ => (pe_cd D_l_power (hr.mono (by decide)) (by rfl) (pa_cons (pv 0) (pa_cons (pv 3) (pa_cons (pv 2) pa_nil)))))) pa_nil)) (pv 2)) pe_int (nomark _)))) pss_nil)
      (pss_cons (ps_for PassesOwn.never rfl (pi_list (pe_lst (pa_cons pe_int (pa_cons pe_int (pa_cons pe_int pa_nil))))) (pg_name (i := 4) sc_l_is_root.nd rfl (Or.inl rfl)) (pss_one (ps_if (pt_cmpR op_eq (pe_op op_mod (pv 1) (pv 4)) pe_int (nomark _)) (pss_cons (ps_set (i := 5) sc_l_is_root.nd rfl (Or.inr rfl) (pe_cd D_l_power (hr.mono (by decide)) (by rfl) (pa_cons (pv 0) (pa_cons (pe_op op_fdivW (pv 1) (pe_op op_mulW pe_int (pv 4))) (pa_cons (pv 2) pa_nil)))))
          (pss_cons (ps_setLc (i := 6) (own := [("_law_k", 3)]) (g := (gName 3)) (tt := tYes) rfl sc_l_is_root.nd rfl rfl (sw_true rfl rfl rfl rfl) (pi_range1 (by rfl) T.b_range (pa_cons (pv 4) pa_nil)) (blkOk_by (own := [("_law_k", 3)]) (N := ["_law_root_here", "_law_many_here", "_law_modulus_here", "_law_k", "_law_odd", "_law_base", "_law_some"]) (sc := defScope s_l_is_root) (by decide +kernel)) (fun _ _ _ _ _ => (pg_name (i := 3) sc_l_is_root.nd rfl (Or.inl rfl))) (fun _ _ _ _ _ => pts_nil) (fun _ _ _ _ _ => (pe_op op_mulW (pe_cd D_l_power (hr.mono (by decide)) (by rfl) (pa_cons (pv 5) (pa_cons (pv 3) (pa_cons (pv 2) pa_nil)))) (pe_ix (r := rIxL K) ix_list (pe_lst (pa_cons pe_int (pa_cons (pe_un un_neg pe_int) pa_nil))) (pe_op op_mod (pv 3) pe_int) (fun _ _ => rfl)))))
          (pss_one (ps_ret (pe_cmpR op_eq (pe_op op_mod (pe_callB (cr_sum rfl) (by rfl) T.b_sum (by decide +kernel) (pa_cons (pv 6) pa_nil)) (pv 2)) pe_int (nomark _)))))) pss_nil)))
      (pss_one (ps_ret (pe_cmpR op_eq (pe_cd D_l_power (hr.mono (by decide)) (by rfl) (pa_cons (pv 0) (pa_cons (pe_op op_fdivW (pv 1) pe_int) (pa_cons (pv 2) pa_nil)))) (pe_op op_sub (pv 2) pe_int) (nomark _)))))), fn_body 4 rfl so rr q ?_⟩
    try dsimp only [cxOf, Cx.nox, Cx.wish]
    array_get_dec
    · rename_i hb
      refine wp_lcM ?_
      array_get_dec
      refine rg1 (by omega) (by omega) ?_
      refine ⟨((List.range n.toNat).map fun k => r ^ k % m).map .int, by unfold rng0; simp, by unfold rng0; simp; omega, fun j d e S0 hd he => gc_name (by decide) fun Φ k => ?_, ?_⟩
      · unfold rng0 at hd
        have lj := (List.getElem?_eq_some_iff.mp hd).1
        rw [List.length_map, List.length_range] at lj
        rw [List.getElem?_map, List.getElem?_range lj] at hd
        rw [List.getElem?_map, List.getElem?_map, List.getElem?_range lj] at he
        cases hd
        cases he
        array_get_dec
        exact lpower_go (by omega) hm k
      · array_get_dec
        refine c_sum rfl ?_
        array_get_dec
        unfold Ck.fits at k
        rw [if_pos (by omega)] at k
        rw [Ck.sum_ones]
        exact rr_dat k
    · rename_i hb
      refine ⟨fun i ρ S' => ∃ v1 v2 v3, ρ = [.dat (.int r), .dat (.int n), .dat (.int m), .no, v1, v2, v3] ∧ S' = S ∧ ∀ p ∈ [3, 5, (7 : Int)].take i, n % p ≠ 0, ⟨_, _, _, rfl, rfl, fun p hp => nomatch hp⟩, ⟨?_, ?_⟩⟩
      · rintro i d ρ S' hd ⟨v1, v2, v3, rfl, rfl, hno⟩
        obtain ⟨p, e, rfl⟩ : ∃ p, [3, 5, (7 : Int)][i]? = some p ∧ d = .int p := by
          have hd : ([3, 5, (7 : Int)].map D.int)[i]? = some d := hd
          rw [List.getElem?_map] at hd
          cases e : [3, 5, (7 : Int)][i]? with
          | none => rw [e] at hd; cases hd
          | some p =>
            rw [e] at hd
            cases hd
            exact ⟨p, rfl, rfl⟩
        have hp : p = 3 ∨ p = 5 ∨ p = 7 := by
          have := List.mem_of_getElem? e
          simpa using this
        array_get_dec
        · rename_i hb3
          have hb3 : n % p = 0 := hb3
          have q0 : 0 ≤ n / (2 * p) := Int.ediv_nonneg (by omega) (by omega)
          have q1 : n / (2 * p) ≤ n := Int.ediv_le_self _ (by omega)
          refine lpower_go (by omega) hm ?_
          have b0 := Int.emod_nonneg (r ^ (n / (2 * p)).toNat) (show m ≠ 0 by omega)
          have b1 := Int.emod_lt_of_pos (r ^ (n / (2 * p)).toNat) (show 0 < m by omega)
          have ek : Ck.fits n m r = Ck.fitp p n m r := by
            unfold Ck.fits
            rw [if_neg (by omega)]
            match i, e, hno with
            | 0, e, hno =>
              cases e
              rw [if_pos hb3]
            | 1, e, hno =>
              cases e
              rw [if_neg (hno 3 (by simp)), if_pos hb3]
            | 2, e, hno =>
              cases e
              rw [if_neg (hno 3 (by simp)), if_neg (hno 5 (by simp)), if_pos hb3]
            | i + 3, e, hno => cases e
          rw [ek] at k
          unfold Ck.fitp at k
          generalize r ^ (n / (2 * p)).toNat % m = b at *
          array_get_dec
          refine wp_lcM ?_
          array_get_dec
          refine rg1 (by omega) (by omega) ?_
          refine ⟨((List.range p.toNat).map fun k => b ^ k % m * (if (k : Nat) % 2 = 1 then (-1 : Int) else 1)).map .int, by unfold rng0; simp, by unfold rng0; simp; omega, fun j d e S0 hd he => gc_name (by decide) fun Φ k => ?_, ?_⟩
          · unfold rng0 at hd
            have lj := (List.getElem?_eq_some_iff.mp hd).1
            rw [List.length_map, List.length_range] at lj
            rw [List.getElem?_map, List.getElem?_range lj] at hd
            rw [List.getElem?_map, List.getElem?_map, List.getElem?_range lj] at he
            cases hd
            cases he
            dsimp only at k
            array_get_dec
            refine lpower_go (by omega) hm ?_
            rw [Int.toNat_natCast]
            have w0 := Int.emod_nonneg (b ^ j) (show m ≠ 0 by omega)
            have w1 := Int.emod_lt_of_pos (b ^ j) (show 0 < m by omega)
            generalize b ^ j % m = wj at *
            array_get_dec
            by_cases hj : j % 2 = 1
            · rw [if_pos hj] at k
              have ei : (j : Int) % 2 = 1 := by omega
              rw [ei]
              exact o_ixL at_one (o_mulS (by omega) (by decide) k)
            · rw [if_neg hj] at k
              have ei : (j : Int) % 2 = 0 := by omega
              rw [ei]
              exact o_ixL at_zero (o_mulS (by omega) (by decide) k)
          · array_get_dec
            refine c_sum rfl ?_
            array_get_dec
            rw [Ck.sum_pows]
            exact rr_dat k
        · rename_i hb3
          refine ⟨_, _, _, rfl, rfl, fun x hx => ?_⟩
          rw [List.take_add_one, e] at hx
          rcases List.mem_append.mp hx with hx | hx
          · exact hno x hx
          · rw [show x = p by simpa using hx]
            exact hb3
      · rintro ρ S' ⟨v1, v2, v3, rfl, rfl, hno⟩
        have h3 := hno 3 (by simp)
        have h5 := hno 5 (by simp)
        have h7 := hno 7 (by simp)
        array_get_dec
        refine lpower_go (by omega) hm ?_
        array_get_dec
        unfold Ck.fits at k
        rw [if_neg (by omega), if_neg h3, if_neg h5, if_neg h7] at k
        exact rr_dat k
theorem ok_l_comes (F : FnP K "_law_comes" s_l_comes f fd) (T : Txt K mg)  : FnOk P w K mg base CX0 1 f fd ["_law_lengths_here", "_law_root_here", "_law_modulus_here"] (lift K sd_lcomes) := by
  refine F.ok sc_l_comes (fun vs H Q E h => ?_) (fun cdv A outer s H vs Q E hr h => ?_)
  · obtain ⟨A, S, rs, Φ, so, rr, h, _⟩ := h
    obtain ⟨d, ls, r, m, rfl, hd, hl, hr2, hm, k⟩ := h
    exact (Paired.length rr).symm
  · obtain ⟨A, S, rs, Φ, so, rr, h, q⟩ := h
    obtain ⟨d, ls, r, m, rfl, hd, hl, hr2, hm, k⟩ := h
    replace rr := plain1 hd rr
    refine ⟨_, PSs.nox (pss_cons (ps_set (i := 3) sc_l_comes.nd rfl (Or.inl rfl) pe_int)
      (pss_cons (ps_for PassesOwn.never rfl (pi_tup (pe_revT (pv 0))) (pg_name (i := 4) sc_l_comes.nd rfl (Or.inl rfl)) (pss_one (ps_set (i := 3) sc_l_comes.nd rfl (Or.inl rfl) (pe_op op_mod (pe_op op_add (pe_op op_mulW (pv 3) (pv 1)) (pv 4)) (pv 2)))))
      (pss_one (ps_ret (pv 3))))), fn_body 2 rfl so rr q ?_⟩
    try dsimp only [cxOf, Cx.nox, Cx.wish]
    array_get_dec
    refine ⟨fun i ρ S' => ∃ v, ρ = [.dat (.tup (ls.map .int)), .dat (.int r), .dat (.int m), .dat (.int ((ls.reverse.take i).foldl (fun a l => (a * r + l) % m) 0)), v] ∧ S' = S ∧ (0 ≤ (ls.reverse.take i).foldl (fun a l => (a * r + l) % m) 0 ∧ (ls.reverse.take i).foldl (fun a l => (a * r + l) % m) 0 < m), ⟨_, rfl, rfl, by show 0 ≤ (0 : Int) ∧ (0 : Int) < m; omega⟩, ⟨?_, ?_⟩⟩
    · rintro i d ρ S' hd ⟨v, rfl, rfl, f0, f1⟩
      rw [← List.map_reverse, List.getElem?_map] at hd
      cases e : ls.reverse[i]? with
      | none => rw [e] at hd; cases hd
      | some l =>
        rw [e] at hd
        cases hd
        have et : (ls.reverse.take (i + 1)).foldl (fun a l => (a * r + l) % m) 0 = ((ls.reverse.take i).foldl (fun a l => (a * r + l) % m) 0 * r + l) % m := by
          rw [List.take_add_one, e]
          show (ls.reverse.take i ++ [l]).foldl (fun a l => (a * r + l) % m) 0 = _
          rw [List.foldl_append]
          rfl
        rw [et]
        generalize (ls.reverse.take i).foldl (fun a l => (a * r + l) % m) 0 = a at *
        have w0 := Int.emod_nonneg (a * r + l) (show m ≠ 0 by omega)
        have w1 := Int.emod_lt_of_pos (a * r + l) (show 0 < m by omega)
        array_get_dec
        exact ⟨.dat (.int l), rfl, rfl, w0, w1⟩
    · rintro ρ S' ⟨v, rfl, rfl, f0⟩
      array_get_dec
      have e : (ls.map D.int).reverse.length = ls.reverse.length := by simp
      rw [e, List.take_length, List.foldl_reverse, Ck.ev_back]
      exact rr_dat k
end
end K34

namespace K34
open PySem PySem.Spec PyProof.Rows L2 Evl Dl
def sd_lprimes : Sd := fun rs S Φ => ∃ n : Nat, rs = [.dat (.int (n : Nat))] ∧ Ck.isMany (n : Nat) = true ∧ ∀ p q : Nat, Ck.Good (n : Nat) p → Ck.Good (n : Nat) q → (n < 16 → Ck.Good (n : Nat) (p * q : Nat)) → Φ (.lst [.int (p : Nat), .int (q : Nat)]) S
def sd_lroot : Sd := fun rs S Φ => ∃ (k : Nat) (n m : Int), rs = [.mu k, .dat (.int n), .dat (.int m)] ∧ Has k S ∧ (3 ≤ n ∧ n ≤ 256) ∧ Ck.Good n m ∧ ∀ (r : Int) (S1 : Store), Pk k S S1 → (0 ≤ r ∧ r < m) → Ck.fits n m r = true → Φ (.int r) S1
theorem lroot_go {k : Nat} {n m : Int} {S : Store} {Φ : D → Store → Prop} (hp : Has k S) (hn : 3 ≤ n ∧ n ≤ 256) (hg : Ck.Good n m) (q : ∀ (r : Int) (S1 : Store), Pk k S S1 → (0 ≤ r ∧ r < m) → Ck.fits n m r = true → Φ (.int r) S1) : sd_lroot [.mu k, .dat (.int n), .dat (.int m)] S Φ := ⟨k, n, m, rfl, hp, hn, hg, q⟩
section
variable {P : Program} {w : World} {K : PySem.W.Frag} {mg : Str → Option Value} {base : Heap} {f : Addr} {fd : FuncData}
theorem ok_l_root (F : FnP K "_law_root" s_l_root f fd) (T : Txt K mg) (D_l_take : Dn P w K mg base 1 "_law_take" ["_law_pool_here", "_law_many_here"] (lift K sd_take)) (D_l_is_root : Dn P w K mg base 2 "_law_is_root" ["_law_root_here", "_law_many_here", "_law_modulus_here"] (lift K sd_lis_root)) : FnOk P w K mg base CX0 3 f fd ["_law_pool_here", "_law_many_here", "_law_modulus_here"] (lift K sd_lroot) := by
  refine F.ok sc_l_root (fun vs H Q E h => ?_) (fun cdv A outer s H vs Q E hr h => ?_)
  · obtain ⟨A, S, rs, Φ, so, rr, h, _⟩ := h
    obtain ⟨k, n, m, rfl, hp, hn, hg, q1⟩ := h
    exact (Paired.length rr).symm
  · obtain ⟨A, S, rs, Φ, so, rr, h, q⟩ := h
    obtain ⟨k, n, m, rfl, hp, hn, hg, q1⟩ := h
    refine ⟨_, PSs.nox (pss_cons (ps_set (i := 3) sc_l_root.nd rfl (Or.inl rfl) (pe_cd D_l_take (hr.mono (by decide)) (by rfl) (pa_cons (pv 0) (pa_cons (pv 2) pa_nil))))
      (pss_cons (ps_for PassesOwn.never rfl (pi_range1 (by rfl) T.b_range (pa_cons (pv 2) pa_nil)) (pg_name (i := 4) sc_l_root.nd rfl (Or.inl rfl)) (pss_one (ps_if (pt_val (pe_cd D_l_is_root (hr.mono (by decide)) (by rfl) (pa_cons (pe_op op_mod (pe_op op_add (pv 3) (pv 4)) (pv 2)) (pa_cons (pv 1) (pa_cons (pv 2) pa_nil))))) (pss_one (ps_ret (pe_op op_mod (pe_op op_add (pv 3) (pv 4)) (pv 2)))) pss_nil)))
      (pss_one (ps_ret pe_int)))), fn_body 2 rfl so rr q ?_⟩
    try dsimp only [cxOf, Cx.nox, Cx.wish]
    obtain ⟨hm, r0, hr0, hf⟩ := hg
    array_get_dec
    refine take_go hp (by omega) (by omega) fun a S1 a0 a1 p1 => ?_
    array_get_dec
    refine rg1 (by omega) (by omega) ?_
    refine ⟨fun i ρ S' => ∃ v, ρ = [.mu k, .dat (.int n), .dat (.int m), .dat (.int a), v] ∧ S' = S1 ∧ ∀ j : Nat, j < i → Ck.fits n m ((a + j) % m) = false, ⟨_, rfl, rfl, fun j hj => absurd hj (Nat.not_lt_zero j)⟩, ⟨?_, ?_⟩⟩
    · rintro i d ρ S' hd ⟨v, rfl, rfl, hno⟩
      unfold rng0 at hd
      have lj := (List.getElem?_eq_some_iff.mp hd).1
      rw [List.length_map, List.length_range] at lj
      rw [List.getElem?_map, List.getElem?_range lj] at hd
      cases hd
      have w0 := Int.emod_nonneg (a + i) (show m ≠ 0 by omega)
      have w1 := Int.emod_lt_of_pos (a + i) (show 0 < m by omega)
      array_get_dec
      refine lis_root_go hn (by omega) (by omega) ?_
      array_get_dec
      · rename_i hfit
        exact rr_len p1.len (q1 _ S' p1 ⟨w0, w1⟩ hfit)
      · rename_i hfit
        refine ⟨_, rfl, rfl, fun j hj => ?_⟩
        by_cases e : j = i
        · rw [e]
          exact hfit
        · exact hno j (by omega)
    · rintro ρ S' ⟨v, rfl, rfl, hno⟩
      exfalso
      have e : (rng0 m).length = m.toNat := by
        unfold rng0
        simp
      rw [e] at hno
      have t0 := Int.emod_nonneg (r0 - a) (show m ≠ 0 by omega)
      have t1 := Int.emod_lt_of_pos (r0 - a) (show 0 < m by omega)
      have h := hno ((r0 - a) % m).toNat (by omega)
      have e2 : (a + (((r0 - a) % m).toNat : Int)) % m = r0 := by
        rw [Int.toNat_of_nonneg t0, Int.add_emod, Int.emod_emod, ← Int.add_emod, show a + (r0 - a) = r0 by omega, Int.emod_eq_of_lt hr0.1 hr0.2]
      rw [e2, hf] at h
      cases h
theorem ok_l_primes (F : FnP K "_law_primes" s_l_primes f fd) (T : Txt K mg)  : FnOk P w K mg base CX0 1 f fd ["_law_many_here"] (lift K sd_lprimes) := by
  refine F.ok sc_l_primes (fun vs H Q E h => ?_) (fun cdv A outer s H vs Q E hr h => ?_)
  · obtain ⟨A, S, rs, Φ, so, rr, h, _⟩ := h
    obtain ⟨n, rfl, hn, k⟩ := h
    exact (Paired.length rr).symm
  · obtain ⟨A, S, rs, Φ, so, rr, h, q⟩ := h
    obtain ⟨n, rfl, hn, k⟩ := h
    refine ⟨_, PSs.nox (pss_cons (ps_setM (ps_set (i := 1) sc_l_primes.nd rfl (Or.inl rfl) (pe_lst pa_nil)))
      (pss_cons (ps_set (i := 2) sc_l_primes.nd rfl (Or.inr rfl) (pe_op op_add (pv 0) pe_int))
      (pss_cons (ps_while PassesOwn.never (pt_cmpR op_lt (pe_callB call_len_seq (by rfl) T.b_len (by decide +kernel) (pa_cons (pv 1) pa_nil)) pe_int (nomark _)) (pss_cons (ps_setLc (i := 3) (own := [("_law_k", 4)]) (g := (gName 4)) (tt := _) rfl sc_l_primes.nd rfl rfl (sw_true rfl rfl rfl rfl) (pi_range2 (by rfl) T.b_range (pa_cons pe_int (pa_cons (pv 2) pa_nil))) (blkOk_by (own := [("_law_k", 4)]) (N := ["_law_many_here", "_law_found", "_law_number", "_law_some", "_law_k"]) (sc := defScope s_l_primes) (by decide +kernel)) (fun _ _ _ _ _ => (pg_name (i := 4) sc_l_primes.nd rfl (Or.inl rfl))) (fun _ _ _ _ _ => (pts_one (pt_cmpR op_le (pe_op op_mulW (pv 4) (pv 4)) (pv 2) (nomark _)))) (fun _ _ _ _ _ => (pv 4)))
        (pss_cons (ps_if (pt_val (pe_callB (cr_all rfl) (by rfl) T.b_all (by decide +kernel) (pa_cons (pe_lc (own := [("_law_k", 4)]) (g := (gName 4)) (tt := tYes) rfl sc_l_primes.nd (pi_list (pv 3)) (blkOk_by (own := [("_law_k", 4)]) (N := ["_law_many_here", "_law_found", "_law_number", "_law_some", "_law_k"]) (sc := defScope s_l_primes) (by decide +kernel)) (fun _ _ _ _ _ => (pg_name (i := 4) sc_l_primes.nd rfl (Or.inl rfl))) (fun _ _ _ _ _ => pts_nil) (fun _ _ _ _ _ => (pe_cmpR op_gt (pe_op op_mod (pv 2) (pv 4)) pe_int (nomark _)))) pa_nil))) (pss_one (ps_expr (pe_bm PySem.F.plainAttrs_list PySem.F.slot_list_append PySem.F.type_list_append mt_append (pv 1) (pa_cons (pv 2) pa_nil)))) pss_nil)
        (pss_one (ps_set (i := 2) sc_l_primes.nd rfl (Or.inr rfl) (pe_op op_add (pv 2) (pv 0)))))))
      (pss_one (ps_ret (pv 1)))))), fn_body 4 rfl so rr q ?_⟩
    try dsimp only [cxOf, Cx.nox, Cx.wish]
    obtain ⟨e, p, q2, e1, e2, e20, g1, g2, g3⟩ := Ck.primes_ok hn
    replace k := k p q2 g1 g2 g3
    have hl := many_le hn
    array_get_dec
    refine ws_while (fun j ρ S' => ∃ (i : Nat) (v1 v2 : Dl.R), j = e + 1 - i ∧ i ≤ e + 1 ∧ ρ = [.dat (.int (n : Nat)), .mu S.length, .dat (.int ((n * (i + 1) + 1 : Nat))), v1, v2] ∧ S' = S ++ [.ls ((Ck.pu n i).map fun x => .int (x : Nat))]) (e + 1) ⟨0, .no, .no, rfl, by omega, ?_, rfl⟩ ?_
    · have e3 : ((n * (0 + 1) + 1 : Nat) : Int) = (n : Int) + 1 := by omega
      rw [e3]
      rfl
    rintro j ρ S' ⟨i, v1, v2, rfl, hi, rfl, rfl⟩
    have bN : n * (i + 1) + 1 < 10000 := by
      have := Nat.mul_le_mul (show n ≤ 256 by omega) (show i + 1 ≤ 22 by omega)
      omega
    have nx : n * (i + 1 + 1) + 1 = n * (i + 1) + 1 + n := by
      rw [Nat.mul_add n (i + 1) 1]
      omega
    have ep : Ck.pu n (i + 1) = if Ck.isP (n * (i + 1) + 1) then Ck.pu n i ++ [n * (i + 1) + 1] else Ck.pu n i := by rw [Ck.pu]
    have ll : (Ck.pu n i).length ≤ 2 := by
      have := Ck.pu_mono n hi
      rw [e1] at this
      exact this
    generalize hN : n * (i + 1) + 1 = N at *
    array_get_dec
    · rename_i hb
      rw [List.length_map] at hb
      have hie : i ≤ e := by
        apply Nat.le_of_not_lt
        intro z
        rw [show i = e + 1 by omega, e1] at hb
        simp at hb
      refine wp_lcF ?_
      array_get_dec
      refine rg2 (by omega) ?_
      refine ⟨(List.range (N - 2)).map fun i => if (2 + i) * (2 + i) ≤ N then some (.int ((2 + i : Nat) : Int)) else none, by unfold rngD; simp; omega, by unfold rngD; simp; omega, fun j d e S0 hd he => gc_name (by decide) fun Φ k => ?_, ?_⟩
      · unfold rngD at hd
        have lj := (List.getElem?_eq_some_iff.mp hd).1
        rw [List.length_map, List.length_range] at lj
        rw [List.getElem?_map, List.getElem?_range lj] at hd
        rw [List.getElem?_map, List.getElem?_range (by omega)] at he
        cases hd
        cases he
        have el : (2 : Int) + (j : Nat) = ((2 + j : Nat) : Int) := by omega
        dsimp only at k ⊢
        rw [el]
        generalize hx : 2 + j = x at *
        have e1 : (if x * x ≤ N then some (D.int (x : Nat)) else none).isSome = decide ((x : Int) * x ≤ N) := by
          by_cases h : x * x ≤ N
          · rw [if_pos h, decide_eq_true (by rw [← Int.natCast_mul]; omega)]
            rfl
          · rw [if_neg h, decide_eq_false (by rw [← Int.natCast_mul]; omega)]
            rfl
        rw [e1] at k
        refine ⟨?_, fun y hy Φ k => ?_⟩
        · array_get_dec
          exact k
        · have ey : y = .int (x : Nat) := by
            by_cases h : x * x ≤ N
            · rw [if_pos h] at hy
              cases hy
              rfl
            · rw [if_neg h] at hy
              cases hy
          subst ey
          array_get_dec
          exact k
      have ef : ((List.range (N - 2)).map fun i => if (2 + i) * (2 + i) ≤ N then some (D.int ((2 + i : Nat) : Int)) else none).filterMap id = (Ck.smalls N).map fun x => .int (x : Nat) := by
        unfold Ck.smalls
        generalize List.range (N - 2) = L
        induction L with
        | nil => rfl
        | cons s L ih =>
          rw [List.map_cons, List.map_cons, List.filter_cons]
          by_cases h : (2 + s) * (2 + s) ≤ N
          · rw [if_pos h, if_pos (decide_eq_true h), List.map_cons, ← ih]
            rfl
          · rw [if_neg h, if_neg (by simpa using h), ← ih]
            rfl
      rw [ef]
      have sm : ∀ x ∈ Ck.smalls N, 2 ≤ x := fun x hx => by
        unfold Ck.smalls at hx
        obtain ⟨hx, _⟩ := List.mem_filter.mp hx
        obtain ⟨y, _, rfl⟩ := List.mem_map.mp hx
        omega
      have sl : (Ck.smalls N).length ≤ N - 2 := by
        unfold Ck.smalls
        refine Nat.le_trans (List.length_filter_le _ _) ?_
        rw [List.length_map, List.length_range]
        exact Nat.le_refl _
      array_get_dec
      refine wp_lcM ?_
      array_get_dec
      refine ⟨(Ck.smalls N).map fun x => .bl (decide (0 < N % x)), by simp, by rw [List.length_map]; omega, fun j d e S0 hd he => gc_name (by decide) fun Φ k => ?_, ?_⟩
      · rw [List.getElem?_map] at hd he
        cases e4 : (Ck.smalls N)[j]? with
        | none => rw [e4] at hd; cases hd
        | some x =>
          rw [e4] at hd he
          cases hd
          cases he
          have := sm x (List.mem_of_getElem? e4)
          have e5 : decide (0 < N % x) = decide (0 < (N : Int) % (x : Int)) := by
            rw [← Int.natCast_emod]
            exact decide_eq_decide.mpr (by omega)
          dsimp only at k
          rw [e5] at k
          array_get_dec
          exact k
      array_get_dec
      refine c_all (bs := (Ck.smalls N).map fun x => decide (0 < N % x)) (by rw [List.map_map]; rfl) ?_
      have ea : ((Ck.smalls N).map fun x => decide (0 < N % x)).all id = Ck.isP N := by
        unfold Ck.isP
        rw [List.all_map]
        rfl
      rw [ea]
      array_get_dec
      · rename_i hb2
        refine appTo_last (by rw [List.length_map]; omega) ?_
        array_get_dec
        rw [if_pos hb2] at ep
        refine ⟨e + 1 - (i + 1), by omega, i + 1, .dat (.lst ((Ck.smalls N).map fun x => .int (x : Nat))), v2, rfl, by omega, ?_, ?_⟩
        · rw [nx, Int.natCast_add]
          rfl
        · rw [ep, List.map_append, List.map_cons, List.map_nil]
      · rename_i hb2
        rw [if_neg (by rw [hb2]; exact Bool.false_ne_true)] at ep
        refine ⟨e + 1 - (i + 1), by omega, i + 1, .dat (.lst ((Ck.smalls N).map fun x => .int (x : Nat))), v2, rfl, by omega, ?_, ?_⟩
        · rw [nx, Int.natCast_add]
          rfl
        · rw [ep]
    · rename_i hb
      rw [List.length_map] at hb
      have ie : i = e + 1 := by
        apply Nat.le_antisymm hi
        apply Nat.le_of_not_lt
        intro z
        have := Ck.pu_mono n (show i ≤ e by omega)
        omega
      rw [ie, e1]
      exact rr_mu rfl rfl k
end
end K34

namespace K34
open PySem PySem.Spec PyProof.Rows L2 Evl Dl
theorem many_all : ∀ n ∈ [3, 4, 5, 6, 7, 8, 10, 12, 14, 16, 20, 24, 28, 32, 40, 48, 256, 224, 192, 160, (128 : Int)], Ck.isMany n = true := by
  intro n hn
  simp only [List.mem_cons, List.not_mem_nil, or_false] at hn
  rcases hn with rfl | rfl | rfl | rfl | rfl | rfl | rfl | rfl | rfl | rfl | rfl | rfl | rfl | rfl | rfl | rfl | rfl | rfl | rfl | rfl | rfl <;> simp [Ck.isMany, Ck.oddp]
def sd_lmany : Sd := fun rs S Φ => ∃ k, rs = [.mu k] ∧ Has k S ∧ ∀ (n : Int) (S1 : Store), Pk k S S1 → Ck.isMany n = true → Φ (.int n) S1
theorem lmany_go {k : Nat} {S : Store} {Φ : D → Store → Prop} (hp : Has k S) (q : ∀ (n : Int) (S1 : Store), Pk k S S1 → Ck.isMany n = true → Φ (.int n) S1) : sd_lmany [.mu k] S Φ := ⟨k, rfl, hp, q⟩
def sd_lis_many : Sd := fun rs S Φ => ∃ n : Int, rs = [.dat (.int n)] ∧ Φ (.bl (Ck.isMany n)) S
def rowB (d : D) (n : Int) : Bool := match Ck.items d with
  | some ds => decide ((ds.length : Int) = n) && ds.all Ck.isWh
  | none => false
def sd_row_of : Sd := fun rs S Φ => ∃ d n, rs = [.dat d, .dat (.int n)] ∧ Ck.pd d = true ∧ (n ≤ 1000) ∧ Φ (.bl (rowB d n)) S
theorem row_of_go {d : D} {n : Int} {S : Store} {Φ : D → Store → Prop} (h : Ck.pd d = true) (h0 : n ≤ 1000) (k : Φ (.bl (rowB d n)) S) : sd_row_of [.dat d, .dat (.int n)] S Φ := ⟨d, n, rfl, h, h0, k⟩
section
variable {P : Program} {w : World} {K : PySem.W.Frag} {mg : Str → Option Value} {base : Heap} {f : Addr} {fd : FuncData}
theorem ok_l_many (F : FnP K "_law_many" s_l_many f fd) (T : Txt K mg) (D_l_take : Dn P w K mg base 1 "_law_take" ["_law_pool_here", "_law_many_here"] (lift K sd_take)) : FnOk P w K mg base CX0 2 f fd ["_law_pool_here"] (lift K sd_lmany) := by
  refine F.ok sc_l_many (fun vs H Q E h => ?_) (fun cdv A outer s H vs Q E hr h => ?_)
  · obtain ⟨A, S, rs, Φ, so, rr, h, _⟩ := h
    obtain ⟨k, rfl, hp, q1⟩ := h
    exact (Paired.length rr).symm
  · obtain ⟨A, S, rs, Φ, so, rr, h, q⟩ := h
    obtain ⟨k, rfl, hp, q1⟩ := h
    refine ⟨_, PSs.nox (pss_cons (ps_set (i := 1) sc_l_many.nd rfl (Or.inl rfl) (pe_lst (pa_cons pe_int (pa_cons pe_int (pa_cons pe_int (pa_cons pe_int (pa_cons pe_int (pa_cons pe_int (pa_cons pe_int (pa_cons pe_int (pa_cons pe_int (pa_cons pe_int (pa_cons pe_int (pa_cons pe_int (pa_cons pe_int (pa_cons pe_int (pa_cons pe_int (pa_cons pe_int pa_nil))))))))))))))))))
      (pss_cons (ps_if (pt_cmpR op_eq (pe_cd D_l_take (hr.mono (by decide)) (by rfl) (pa_cons (pv 0) (pa_cons pe_int pa_nil))) pe_int (nomark _)) (pss_one (ps_ret (pe_ix ix_list (pe_lst (pa_cons pe_int (pa_cons pe_int (pa_cons pe_int (pa_cons pe_int (pa_cons pe_int pa_nil)))))) (pe_cd D_l_take (hr.mono (by decide)) (by rfl) (pa_cons (pv 0) (pa_cons pe_int pa_nil))) (fun _ _ => rfl)))) pss_nil)
      (pss_one (ps_ret (pe_ix ix_list (pv 1) (pe_cd D_l_take (hr.mono (by decide)) (by rfl) (pa_cons (pv 0) (pa_cons pe_int pa_nil))) (fun _ _ => rfl)))))), fn_body 1 rfl so rr q ?_⟩
    try dsimp only [cxOf, Cx.nox, Cx.wish]
    array_get_dec
    refine take_go hp (by decide) (by decide) fun d S1 d0 d1 p1 => ?_
    array_get_dec
    · refine take_go (p1.has hp) (by decide) (by decide) fun e S2 e0 e1 p2 => ?_
      obtain ⟨v, hv, ev⟩ := at_ints (L := [256, 224, 192, 160, 128]) e0 (by show e < 5; omega)
      refine o_ixL ev (rr_len (p2.len.trans p1.len) (q1 v S2 (p1.trans p2) (many_all v ?_)))
      simp only [List.mem_cons, List.not_mem_nil, or_false] at hv ⊢
      omega
    · refine take_go (p1.has hp) (by decide) (by decide) fun e S2 e0 e1 p2 => ?_
      obtain ⟨v, hv, ev⟩ := at_ints (L := [3, 4, 5, 6, 7, 8, 10, 12, 14, 16, 20, 24, 28, 32, 40, 48]) e0 (by show e < 16; omega)
      refine o_ixL ev (rr_len (p2.len.trans p1.len) (q1 v S2 (p1.trans p2) (many_all v ?_)))
      simp only [List.mem_cons, List.not_mem_nil, or_false] at hv ⊢
      omega
theorem ok_l_is_many (F : FnP K "_law_is_many" s_l_is_many f fd) (T : Txt K mg)  : FnOk P w K mg base CX0 1 f fd ["_law_many_here"] (lift K sd_lis_many) := by
  refine F.ok sc_l_is_many (fun vs H Q E h => ?_) (fun cdv A outer s H vs Q E hr h => ?_)
  · obtain ⟨A, S, rs, Φ, so, rr, h, _⟩ := h
    obtain ⟨n, rfl, k⟩ := h
    exact (Paired.length rr).symm
  · obtain ⟨A, S, rs, Φ, so, rr, h, q⟩ := h
    obtain ⟨n, rfl, k⟩ := h
    refine ⟨_, PSs.nox (pss_cons (ps_if (pt_not (pt_chain op_le op_le pe_int (pv 0) pe_int)) (pss_one (ps_ret pe_bl)) pss_nil)
      (pss_cons (ps_while PassesOwn.never (pt_cmpR op_eq (pe_op op_mod (pv 0) pe_int) pe_int (nomark _)) (pss_one (ps_set (i := 0) sc_l_is_many.nd rfl (Or.inl rfl) (pe_op op_fdivW (pv 0) pe_int))))
      (pss_one (ps_ret (pe_cmpR op_in_seq (pv 0) (pe_lst (pa_cons pe_int (pa_cons pe_int (pa_cons pe_int (pa_cons pe_int pa_nil))))) (by rfl)))))), fn_body 0 rfl so rr q ?_⟩
    try dsimp only [cxOf, Cx.nox, Cx.wish]
    by_cases hn : 3 ≤ n ∧ n ≤ 256
    · obtain ⟨i, rfl⟩ := Int.eq_ofNat_of_zero_le (show 0 ≤ n by omega)
      array_get_dec
      · omega
      · refine ws_while (fun m ρ S' => ∃ l : Nat, ρ = [.dat (.int (l : Nat))] ∧ S' = S ∧ 0 < l ∧ Ck.oddp l = Ck.oddp i ∧ m = l) i ⟨i, rfl, rfl, by omega, rfl, rfl⟩ ?_
        rintro m ρ S' ⟨l, rfl, rfl, l0, eo, rfl⟩
        array_get_dec
        · rename_i hb
          refine ⟨m / 2, by omega, m / 2, rfl, rfl, by omega, ?_, rfl⟩
          rw [← Ck.oddp_even (by omega) l0]
          exact eo
        · rename_i hb
          have el : Ck.oddp i = m := by
            rw [← eo, Ck.oddp_odd (by omega)]
          refine o_inI (ns := [1, 3, 5, 7]) sq_l ?_
          unfold Ck.isMany at k
          rw [decide_eq_true (p := 3 ≤ (i : Int)) (by omega), decide_eq_true (p := (i : Int) ≤ 256) (by omega), Int.toNat_natCast, el] at k
          have e : (if false = true then !List.contains [1, 3, 5, 7] (m : Int) else List.contains [1, 3, 5, 7] (m : Int)) = ((true && true) && (decide (m = 1) || (decide (m = 3) || (decide (m = 5) || decide (m = 7))))) := by
            rw [if_neg Bool.false_ne_true, Bool.eq_iff_iff]
            simp
            omega
          rw [e]
          exact rr_dat k
      · omega
    · have e : Ck.isMany n = false := by
        unfold Ck.isMany
        by_cases h : 3 ≤ n
        · rw [decide_eq_false (p := n ≤ 256) (by omega), Bool.and_false]
          rfl
        · rw [decide_eq_false h]
          rfl
      rw [e] at k
      array_get_dec
      all_goals first | exact rr_dat k | omega
theorem ok_l_whole (F : FnP K "_law_whole" s_l_whole f fd) (T : Txt K mg)  : FnOk P w K mg base CX0 1 f fd ["_law_thing"] (lift K sd_is_whole) := by
  refine F.ok sc_l_whole (fun vs H Q E h => ?_) (fun cdv A outer s H vs Q E hr h => ?_)
  · obtain ⟨A, S, rs, Φ, so, rr, h, _⟩ := h
    obtain ⟨d, rfl, hp, k⟩ := h
    exact (Paired.length rr).symm
  · obtain ⟨A, S, rs, Φ, so, rr, h, q⟩ := h
    obtain ⟨d, rfl, hp, k⟩ := h
    refine ⟨_, PSs.nox (pss_one (ps_ret (pe_and (pe_callB call_isi (by rfl) T.b_isinstance (by decide +kernel) (pa_cons (pv 0) (pa_cons (pe_bltn (v := .ty "int") (by rfl) T.b_int (by decide +kernel) rfl) pa_nil))) (pe_one (pe_not (pe_callB call_isi (by rfl) T.b_isinstance (by decide +kernel) (pa_cons (pv 0) (pa_cons (pe_bltn (v := .ty "bool") (by rfl) T.b_bool (by decide +kernel) rfl) pa_nil)))))))), fn_body 0 rfl so rr q ?_⟩
    try dsimp only [cxOf, Cx.nox, Cx.wish]
    have pl := Ck.pd_Pl hp
    rw [isWh_eq] at k
    array_get_dec
    · rename_i hb
      rw [hb] at k
      exact rr_dat k
    · rename_i hb
      rw [hb] at k
      exact rr_dat k
theorem ok_l_row_of (F : FnP K "_law_row_of" s_l_row_of f fd) (T : Txt K mg) (D_l_whole : Dn P w K mg base 1 "_law_whole" ["_law_thing"] (lift K sd_is_whole)) : FnOk P w K mg base CX0 2 f fd ["_law_thing", "_law_many_here"] (lift K sd_row_of) := by
  refine F.ok sc_l_row_of (fun vs H Q E h => ?_) (fun cdv A outer s H vs Q E hr h => ?_)
  · obtain ⟨A, S, rs, Φ, so, rr, h, _⟩ := h
    obtain ⟨d, n, rfl, hp, hn, k⟩ := h
    exact (Paired.length rr).symm
  · obtain ⟨A, S, rs, Φ, so, rr, h, q⟩ := h
    obtain ⟨d, n, rfl, hp, hn, k⟩ := h
    rcases tup_cases d with ⟨ds, hi, ht⟩ | ⟨hi, hn2⟩
    · have k1 : Φ (.bl (decide ((ds.length : Int) = n) && ds.all Ck.isWh)) S := by
        unfold rowB at k
        rw [hi] at k
        exact k
      replace rr := plain1 ht rr
      have pi := pd_items hp ht
      refine ⟨_, PSs.nox (pss_one (ps_ret (pe_and (pe_callB call_isi (by rfl) T.b_isinstance (by decide +kernel) (pa_cons (pv 0) (pa_cons (pe_bltn (v := .ty "tuple") (by rfl) T.b_tuple (by decide +kernel) rfl) pa_nil))) (pe_and (pe_cmpR op_eq (pe_callB call_len_seq (by rfl) T.b_len (by decide +kernel) (pa_cons (pv 0) pa_nil)) (pv 1) (nomark _)) (pe_one (pe_callB (cr_all rfl) (by rfl) T.b_all (by decide +kernel) (pa_cons (pe_lc (own := [("_law_part", 2)]) (g := (gName 2)) (tt := tYes) rfl sc_l_row_of.nd (pi_tup (pv 0)) (blkOk_by (own := [("_law_part", 2)]) (N := ["_law_thing", "_law_many_here", "_law_part"]) (sc := defScope s_l_row_of) (by decide +kernel)) (fun _ _ _ _ _ => (pg_name (i := 2) sc_l_row_of.nd rfl (Or.inl rfl))) (fun _ _ _ _ _ => pts_nil) (fun _ _ _ _ _ => (pe_cd D_l_whole (hr.mono (by decide)) (by rfl) (pa_cons (pv 2) pa_nil)))) pa_nil))))))), fn_body 1 rfl so rr q ?_⟩
      try dsimp only [cxOf, Cx.nox, Cx.wish]
      array_get_dec
      · rename_i hb
        refine wp_lcM ?_
        array_get_dec
        refine ⟨ds.map fun d => .bl (Ck.isWh d), by simp, by omega, fun i d e S0 hd he => gc_name (by decide) fun Φ k => ?_, ?_⟩
        · rw [List.getElem?_map, hd] at he
          cases he
          array_get_dec
          exact is_whole_go (pi d (List.mem_of_getElem? hd)) k
        · array_get_dec
          refine c_all (bs := ds.map Ck.isWh) (by rw [List.map_map]; rfl) ?_
          rw [map_all]
          rw [decide_eq_true hb] at k1
          exact rr_dat k1
      · rename_i hb
        rw [decide_eq_false hb] at k1
        exact rr_dat k1
    · have pl := Ck.pd_Pl hp
      unfold rowB at k
      rw [hi] at k
      refine ⟨_, PSs.nox (pss_one (ps_ret (pe_and (pe_callB call_isi (by rfl) T.b_isinstance (by decide +kernel) (pa_cons (pv 0) (pa_cons (pe_bltn (v := .ty "tuple") (by rfl) T.b_tuple (by decide +kernel) rfl) pa_nil))) (pe_and (pe_cmpR op_eq (pe_callB call_len_seq (by rfl) T.b_len (by decide +kernel) (pa_cons (pv 0) pa_nil)) (pv 1) (nomark _)) (pe_one (pe_callB (cr_all rfl) (by rfl) T.b_all (by decide +kernel) (pa_cons (pe_lc (own := [("_law_part", 2)]) (g := (gName 2)) (tt := tYes) rfl sc_l_row_of.nd (pi_tup (pv 0)) (blkOk_by (own := [("_law_part", 2)]) (N := ["_law_thing", "_law_many_here", "_law_part"]) (sc := defScope s_l_row_of) (by decide +kernel)) (fun _ _ _ _ _ => (pg_name (i := 2) sc_l_row_of.nd rfl (Or.inl rfl))) (fun _ _ _ _ _ => pts_nil) (fun _ _ _ _ _ => (pe_cd D_l_whole (hr.mono (by decide)) (by rfl) (pa_cons (pv 2) pa_nil)))) pa_nil))))))), fn_body 1 rfl so rr q ?_⟩
      try dsimp only [cxOf, Cx.nox, Cx.wish]
      array_get_dec
      · rename_i hb
        rw [hn2] at hb
        cases hb
      · exact rr_dat k
end
end K34

namespace K34
open PySem PySem.Spec PyProof.Rows L2 Evl Dl
theorem row3 {d : D} (h : rowB d 3 = true) : ∃ a b c : Int, d = .tup [.int a, .int b, .int c] ∨ d = .ftup [.int a, .int b, .int c] := by
  unfold rowB at h
  cases e : Ck.items d with
  | none => rw [e] at h; cases h
  | some ds =>
    rw [e] at h
    have h : (decide ((ds.length : Int) = 3) && ds.all Ck.isWh) = true := h
    rw [Bool.and_eq_true] at h
    have hl := of_decide_eq_true h.1
    have hw := Ck.whs h.2
    match ds, hl, hw with
    | [a, b, c], _, hw => exact ⟨_, _, _, by rw [hw] at e; exact items_some e⟩
theorem ring_row {n : Int} {d : D} (h : Ck.ringB n d = true) : rowB d 3 = true := by
  obtain ⟨a, b, c, hd, _⟩ := ring_is h
  rcases hd with rfl | rfl <;> rfl
def sizesL (n : Int) : List Int := [2, 3, 5, 7].filter fun s => decide (n % s = 0)
def sd_sizes : Sd := fun rs S Φ => ∃ n : Int, rs = [.dat (.int n)] ∧ Φ (.lst ((sizesL n).map .int)) S
theorem sizes_go {n : Int} {S : Store} {Φ : D → Store → Prop} (k : Φ (.lst ((sizesL n).map .int)) S) : sd_sizes [.dat (.int n)] S Φ := ⟨n, rfl, k⟩
theorem sizes_mem {n s : Int} (h : s ∈ sizesL n) : (s = 2 ∨ s = 3 ∨ s = 5 ∨ s = 7) ∧ n % s = 0 := by
  unfold sizesL at h
  rw [List.mem_filter] at h
  exact ⟨by simpa using h.1, of_decide_eq_true h.2⟩
theorem sizes_len {n : Int} (h : Ck.isMany n = true) : 0 < (sizesL n).length ∧ (sizesL n).length ≤ 4 := by
  obtain ⟨s, hs, e⟩ := Ck.size_ex h
  refine ⟨List.length_pos_of_mem (a := s) ?_, List.length_filter_le _ _⟩
  unfold sizesL
  exact List.mem_filter.mpr ⟨hs, decide_eq_true e⟩
section
variable {P : Program} {w : World} {K : PySem.W.Frag} {mg : Str → Option Value} {base : Heap} {f : Addr} {fd : FuncData}
theorem ok_l_sizes (F : FnP K "_law_sizes" s_l_sizes f fd) (T : Txt K mg)  : FnOk P w K mg base CX0 1 f fd ["_law_many_here"] (lift K sd_sizes) := by
  refine F.ok sc_l_sizes (fun vs H Q E h => ?_) (fun cdv A outer s H vs Q E hr h => ?_)
  · obtain ⟨A, S, rs, Φ, so, rr, h, _⟩ := h
    obtain ⟨n, rfl, k⟩ := h
    exact (Paired.length rr).symm
  · obtain ⟨A, S, rs, Φ, so, rr, h, q⟩ := h
    obtain ⟨n, rfl, k⟩ := h
    refine ⟨_, PSs.nox (pss_one (ps_ret (pe_lc (own := [("_law_size", 1)]) (g := (gName 1)) (tt := _) rfl sc_l_sizes.nd (pi_list (pe_lst (pa_cons pe_int (pa_cons pe_int (pa_cons pe_int (pa_cons pe_int pa_nil)))))) (blkOk_by (own := [("_law_size", 1)]) (N := ["_law_many_here", "_law_size"]) (sc := defScope s_l_sizes) (by decide +kernel)) (fun _ _ _ _ _ => (pg_name (i := 1) sc_l_sizes.nd rfl (Or.inl rfl))) (fun _ _ _ _ _ => (pts_one (pt_cmpR op_eq (pe_op op_mod (pv 0) (pv 1)) pe_int (nomark _)))) (fun _ _ _ _ _ => (pv 1))))), fn_body 1 rfl so rr q ?_⟩
    try dsimp only [cxOf, Cx.nox, Cx.wish]
    array_get_dec
    refine wp_lcF ?_
    array_get_dec
    refine ⟨[2, 3, 5, (7 : Int)].map fun s => if n % s = 0 then some (.int s) else none, rfl, by decide, fun i d e S0 hd he => gc_name (by decide) fun Φ k => ?_, ?_⟩
    · obtain ⟨s, hs, rfl, rfl⟩ : ∃ s : Int, 0 < s ∧ d = .int s ∧ e = if n % s = 0 then some (.int s) else none := by
        rw [List.getElem?_map] at he
        match i, hd, he with
        | 0, hd, he => cases hd; cases he; exact ⟨2, by decide, rfl, rfl⟩
        | 1, hd, he => cases hd; cases he; exact ⟨3, by decide, rfl, rfl⟩
        | 2, hd, he => cases hd; cases he; exact ⟨5, by decide, rfl, rfl⟩
        | 3, hd, he => cases hd; cases he; exact ⟨7, by decide, rfl, rfl⟩
      have e1 : (if n % s = 0 then some (D.int s) else none).isSome = decide (n % s = 0) := by
        by_cases h : n % s = 0
        · rw [if_pos h, decide_eq_true h]
          rfl
        · rw [if_neg h, decide_eq_false h]
          rfl
      rw [e1] at k
      refine ⟨?_, fun y hy Φ k => ?_⟩
      · array_get_dec
        exact k
      · have ey : y = .int s := by
          by_cases h : n % s = 0
          · rw [if_pos h] at hy
            cases hy
            rfl
          · rw [if_neg h] at hy
            cases hy
        subst ey
        array_get_dec
        exact k
    · refine rr_dat ?_
      have e : (List.map (fun s => if n % s = 0 then some (D.int s) else none) [2, 3, 5, (7 : Int)]).filterMap id = (sizesL n).map .int := by
        unfold sizesL
        generalize [2, 3, 5, (7 : Int)] = L
        induction L with
        | nil => rfl
        | cons s L ih =>
          rw [List.map_cons, List.filter_cons]
          by_cases h : n % s = 0
          · rw [if_pos h, if_pos (decide_eq_true h), List.map_cons, ← ih]
            rfl
          · rw [if_neg h, if_neg (by simpa using h), ← ih]
            rfl
      rw [e]
      exact k
end
end K34
namespace K34
open PySem PySem.Spec PyProof.Rows L2 Evl Dl
def RingD (n : Int) (r : D) : Prop := ∃ a b c : Int, r = .tup [.int a, .int b, .int c] ∧ Ck.ringB n r = true ∧ c.natAbs < 2 ^ 100
def sd_lput : Sdm := fun rs S Φ => ∃ (r : Dl.R) (ls : List Int) (d : D) (ds : List D), rs = [r, .dat d] ∧ SqR S r (ls.map .int) ∧ (3 ≤ ls.length ∧ ls.length ≤ 256) ∧ (d = .tup ds ∨ d = .ftup ds) ∧ ds.length < 100000 ∧ ds.all (Ck.ringB (ls.length : Nat)) = true ∧ Φ ((Ck.putAll ls (ds.map Ck.ringOf)).map .int) S
def sd_lrings : Sd := fun rs S Φ => ∃ (k : Nat) (n m : Int), rs = [.mu k, .dat (.int n), .dat (.int m)] ∧ Has k S ∧ Ck.isMany n = true ∧ (0 ≤ m ∧ m ≤ 100) ∧ ∀ (es : List D) (S1 : Store), Pk k S S1 → es.length ≤ m.toNat → (∀ r ∈ es, RingD n r) → Φ (.tup es) S1
theorem lrings_go {k : Nat} {n m : Int} {S : Store} {Φ : D → Store → Prop} (hp : Has k S) (hn : Ck.isMany n = true) (hm : 0 ≤ m ∧ m ≤ 100) (q : ∀ (es : List D) (S1 : Store), Pk k S S1 → es.length ≤ m.toNat → (∀ r ∈ es, RingD n r) → Φ (.tup es) S1) : sd_lrings [.mu k, .dat (.int n), .dat (.int m)] S Φ := ⟨k, n, m, rfl, hp, hn, hm, q⟩
def sd_lat : Sd := fun rs S Φ => ∃ (d : D) (ds : List D) (i : Nat) (x : D), rs = [.dat d, .dat (.int (i : Nat)), .dat x] ∧ (d = .tup ds ∨ d = .ftup ds) ∧ i < ds.length ∧ ds.length ≤ 1000 ∧ Φ (.tup (ds.take i ++ [x] ++ ds.drop (i + 1))) S
theorem lat_go {d : D} {ds : List D} {i : Nat} {x : D} {S : Store} {Φ : D → Store → Prop} (hd : d = .tup ds ∨ d = .ftup ds) (hi : i < ds.length) (hl : ds.length ≤ 1000) (k : Φ (.tup (ds.take i ++ [x] ++ ds.drop (i + 1))) S) : sd_lat [.dat d, .dat (.int (i : Nat)), .dat x] S Φ := ⟨d, ds, i, x, rfl, hd, hi, hl, k⟩
theorem cut_to (ds : List D) (i : Nat) (h : i ≤ ds.length) : Dl.cutD ds none (some (i : Int)) = ds.take i := by
  unfold Dl.cutD
  rw [HT.sIx_nat, Nat.min_eq_left h]
  show (ds.drop 0).take (i - 0) = _
  rw [List.drop_zero, Nat.sub_zero]
theorem cut_from (ds : List D) (i : Nat) (h : i ≤ ds.length) : Dl.cutD ds (some (i : Int)) none = ds.drop i := by
  unfold Dl.cutD
  rw [HT.sIx_nat, Nat.min_eq_left h]
  show (ds.drop i).take (ds.length - i) = _
  rw [List.take_of_length_le (by rw [List.length_drop]; exact Nat.le_refl _)]
section
variable {P : Program} {w : World} {K : PySem.W.Frag} {mg : Str → Option Value} {base : Heap} {f : Addr} {fd : FuncData}
theorem ok_l_put (F : FnP K "_law_put" s_l_put f fd) (T : Txt K mg)  : FnOk P w K mg base CX0 1 f fd ["_law_lengths_here", "_law_rings_here"] (liftM K sd_lput) := by
  refine F.ok sc_l_put (fun vs H Q E h => ?_) (fun cdv A outer s H vs Q E hr h => ?_)
  · obtain ⟨A, S, rs, Φ, so, rr, h, _⟩ := h
    obtain ⟨r, ls, d, ds, rfl, hq, hl, ht, hf, ha, k⟩ := h
    exact (Paired.length rr).symm
  · obtain ⟨A, S, rs, Φ, so, rr, h, q⟩ := h
    obtain ⟨r, ls, d, ds, rfl, hq, hl, ht, hf, ha, k⟩ := h
    replace rr := plain2 ht rr
    refine ⟨_, PSs.nox (pss_cons (ps_setM (ps_set (i := 2) sc_l_put.nd rfl (Or.inl rfl) (pe_callTy call_list_of (by rfl) T.b_list (by decide +kernel) (pa_cons (pv 0) pa_nil))))
      (pss_cons (ps_for PassesOwn.never rfl (pi_tup (pv 1)) (pg_tup rfl (pgs_cons (pg_name (i := 3) sc_l_put.nd rfl (Or.inl rfl)) (pgs_cons (pg_name (i := 4) sc_l_put.nd rfl (Or.inl rfl)) (pgs_cons (pg_name (i := 5) sc_l_put.nd rfl (Or.inl rfl)) pgs_nil)))) (pss_one (ps_for PassesOwn.never rfl (pi_range3 (by rfl) T.b_range (pa_cons (pv 3) (pa_cons (pe_callB call_len_seq (by rfl) T.b_len (by decide +kernel) (pa_cons (pv 2) pa_nil)) (pa_cons (pe_op op_fdivW (pe_callB call_len_seq (by rfl) T.b_len (by decide +kernel) (pa_cons (pv 2) pa_nil)) (pv 4)) pa_nil)))) (pg_name (i := 6) sc_l_put.nd rfl (Or.inl rfl)) (pss_one (ps_asg (pe_op op_add (pe_ix ix_list (pv 2) (pv 6) (fun _ _ => rfl)) (pv 5)) (pg_sub (pv 2) (pv 6) set_list))))))
      (pss_one (ps_ret (pv 2))))), fn_bodyM 5 rfl so rr q ?_⟩
    try dsimp only [cxOf, Cx.nox, Cx.wish]
    array_get_dec
    refine wp_varR rfl hq.ne ?_
    array_get_dec
    refine ⟨_, hq, ?_⟩
    array_get_dec
    have al := List.all_eq_true.mp ha
    refine ⟨fun i ρ S' => ∃ v1 v2 v3 v4, ρ = [r, .dat (.tup ds), .mu S.length, v1, v2, v3, v4] ∧ S' = S ++ [.ls ((Ck.putAll ls ((ds.take i).map Ck.ringOf)).map .int)], ⟨_, _, _, _, rfl, rfl⟩, ⟨?_, ?_⟩⟩
    · rintro i d ρ S' hd ⟨v1, v2, v3, v4, rfl, rfl⟩
      have hd' := List.mem_of_getElem? hd
      obtain ⟨a, b, c, hd2, er, hb, hm, a0, a1, c0⟩ := ring_is (al d hd')
      have pl : (Ck.putAll ls ((ds.take i).map Ck.ringOf)).length = ls.length := Ck.putAll_len _ _
      refine wg_tp3 hd2 rfl ?_
      array_get_dec
      rw [List.length_map, pl]
      have g1 : (ls.length : Int) / b ≤ (ls.length : Int) := Int.ediv_le_self _ (by omega)
      generalize hG : (ls.length : Int) / b = g at *
      refine rg3 (by omega) (by omega) (by omega) ?_
      have li := (List.getElem?_eq_some_iff.mp hd).1
      have tk : ds.take (i + 1) = ds.take i ++ [d] := by
        rw [List.take_succ, hd]
        rfl
      generalize hC : Ck.putAll ls ((ds.take i).map Ck.ringOf) = cur at *
      refine ⟨fun j ρ S' => ∃ v4, ρ = [r, .dat (.tup ds), .mu S.length, .dat (.int a), .dat (.int b), .dat (.int c), v4] ∧ S' = S ++ [.ls ((((Ck.spots a (ls.length : Nat) g).take j).foldl (Ck.bump c) cur).map .int)], ⟨_, rfl, rfl⟩, ⟨?_, ?_⟩⟩
      · rintro j e ρ S' he ⟨v4, rfl, rfl⟩
        unfold rng3 at he
        have lj := (List.getElem?_eq_some_iff.mp he).1
        rw [List.length_map, List.length_range] at lj
        rw [List.getElem?_map, List.getElem?_range lj] at he
        cases he
        obtain ⟨p0, p1⟩ := Ck.spot_in (g := g) (by omega) a0 lj
        have ep : a + (j : Int) * g = ((a + (j : Int) * g).toNat : Int) := by omega
        have bl : (((Ck.spots a (ls.length : Nat) g).take j).foldl (Ck.bump c) cur).length = ls.length := by
          rw [Ck.bumps_len, pl]
        have ts : (Ck.spots a (ls.length : Nat) g).take (j + 1) = (Ck.spots a (ls.length : Nat) g).take j ++ [(a + (j : Int) * g).toNat] := by
          rw [List.take_succ]
          unfold Ck.spots
          rw [List.getElem?_map, List.getElem?_range lj]
          rfl
        dsimp only
        rw [ep]
        generalize hP : (a + (j : Int) * g).toNat = p at *
        generalize hB : ((Ck.spots a (ls.length : Nat) g).take j).foldl (Ck.bump c) cur = now at *
        have lp : p < now.length := by omega
        array_get_dec
        refine o_ixM (d := .int now[p]) st_last (at_nat (by rw [List.getElem?_map, List.getElem?_eq_getElem lp]; rfl)) ?_
        array_get_dec
        refine ⟨S.length, _, p, _, rfl, rfl, rfl, st_last, by rw [List.length_map]; exact lp, _, rfl, ?_⟩
        rw [st_set, ts, List.foldl_append, hB]
        show _ = S ++ [MO.ls ((Ck.bump c now p).map .int)]
        unfold Ck.bump
        rw [List.map_set, List.getElem?_eq_getElem lp]
        rfl
      · rintro ρ S' ⟨v4, rfl, rfl⟩
        refine ⟨_, _, _, _, rfl, ?_⟩
        have el : (rng3 a (ls.length : Nat) g).length = (Ck.spots a (ls.length : Nat) g).length := by
          rw [spots_len]
          unfold rng3
          rw [List.length_map, List.length_range]
        rw [el, List.take_length, tk, List.map_append, List.map_cons, List.map_nil, er]
        unfold Ck.putAll at hC ⊢
        rw [List.foldl_append, hC]
        show _ = S ++ [MO.ls ((Ck.putR cur (a, b, c)).map .int)]
        unfold Ck.putR
        rw [pl]
        show _ = S ++ [MO.ls (((Ck.spots a (ls.length : Nat) ((ls.length : Nat) / b)).foldl (Ck.bump c) cur).map .int)]
        rw [hG]
    · rintro ρ S' ⟨v1, v2, v3, v4, rfl, rfl⟩
      array_get_dec
      rw [List.take_length]
      exact rm_mu k
theorem ok_l_rings (F : FnP K "_law_rings" s_l_rings f fd) (T : Txt K mg) (D_l_take : Dn P w K mg base 1 "_law_take" ["_law_pool_here", "_law_many_here"] (lift K sd_take)) (D_l_sizes : Dn P w K mg base 1 "_law_sizes" ["_law_many_here"] (lift K sd_sizes)) : FnOk P w K mg base CX0 2 f fd ["_law_pool_here", "_law_many_here", "_law_most"] (lift K sd_lrings) := by
  refine F.ok sc_l_rings (fun vs H Q E h => ?_) (fun cdv A outer s H vs Q E hr h => ?_)
  · obtain ⟨A, S, rs, Φ, so, rr, h, _⟩ := h
    obtain ⟨k, n, m, rfl, hp, hn, hm, q1⟩ := h
    exact (Paired.length rr).symm
  · obtain ⟨A, S, rs, Φ, so, rr, h, q⟩ := h
    obtain ⟨k, n, m, rfl, hp, hn, hm, q1⟩ := h
    refine ⟨_, PSs.nox (pss_cons (ps_setM (ps_set (i := 3) sc_l_rings.nd rfl (Or.inl rfl) (pe_lst pa_nil)))
      (pss_cons (ps_for PassesOwn.never rfl (pi_range1 (by rfl) T.b_range (pa_cons (pe_cd D_l_take (hr.mono (by decide)) (by rfl) (pa_cons (pv 0) (pa_cons (pe_op op_add (pv 2) pe_int) pa_nil))) pa_nil)) (pg_name (i := 4) sc_l_rings.nd rfl (Or.inl rfl)) (pss_cons (ps_set (i := 5) sc_l_rings.nd rfl (Or.inl rfl) (pe_ix ix_list (pe_cd D_l_sizes (hr.mono (by decide)) (by rfl) (pa_cons (pv 1) pa_nil)) (pe_cd D_l_take (hr.mono (by decide)) (by rfl) (pa_cons (pv 0) (pa_cons (pe_callB call_len_seq (by rfl) T.b_len (by decide +kernel) (pa_cons (pe_cd D_l_sizes (hr.mono (by decide)) (by rfl) (pa_cons (pv 1) pa_nil)) pa_nil)) pa_nil))) (fun _ _ => rfl)))
        (pss_cons (ps_set (i := 6) sc_l_rings.nd rfl (Or.inl rfl) (pe_ix ix_list (pe_lst (pa_cons pe_int (pa_cons (pe_un un_neg pe_int) (pa_cons (pe_op op_add pe_int (pe_cd D_l_take (hr.mono (by decide)) (by rfl) (pa_cons (pv 0) (pa_cons pe_int pa_nil)))) (pa_cons (pe_un un_neg pe_int) (pa_cons (pe_op op_add (pe_op op_pow pe_int pe_int) (pe_cd D_l_take (hr.mono (by decide)) (by rfl) (pa_cons (pv 0) (pa_cons pe_int pa_nil)))) pa_nil)))))) (pe_cd D_l_take (hr.mono (by decide)) (by rfl) (pa_cons (pv 0) (pa_cons pe_int pa_nil))) (fun _ _ => rfl)))
        (pss_one (ps_expr (pe_bm PySem.F.plainAttrs_list PySem.F.slot_list_append PySem.F.type_list_append mt_append (pv 3) (pa_cons (pe_tup (pa_cons (pe_cd D_l_take (hr.mono (by decide)) (by rfl) (pa_cons (pv 0) (pa_cons (pe_op op_fdivW (pv 1) (pv 5)) pa_nil))) (pa_cons (pv 5) (pa_cons (pv 6) pa_nil)))) pa_nil)))))))
      (pss_one (ps_ret (pe_callTy call_tuple_of (by rfl) T.b_tuple (by decide +kernel) (pa_cons (pv 3) pa_nil)))))), fn_body 4 rfl so rr q ?_⟩
    try dsimp only [cxOf, Cx.nox, Cx.wish]
    have ln := many_le hn
    have sl := sizes_len hn
    array_get_dec
    refine take_go hp.app (by omega) (by omega) fun d S1' d0 d1 p1' => ?_
    obtain ⟨S1, rfl, p1⟩ := p1'.app hp
    array_get_dec
    refine rg1 (by omega) (by omega) ?_
    refine ⟨fun i ρ S' => ∃ v1 v2 v3, ρ = [.mu k, .dat (.int n), .dat (.int m), .mu S.length, v1, v2, v3] ∧ ∃ S2 es, S' = S2 ++ [.ls es] ∧ Pk k S S2 ∧ es.length = i ∧ ∀ r ∈ es, RingD n r, ⟨_, _, _, rfl, S1, [], rfl, p1, rfl, fun _ h => nomatch h⟩, ⟨?_, ?_⟩⟩
    · rintro i e ρ S' he ⟨v1, v2, v3, rfl, S2, es, rfl, p2, le, hes⟩
      have li := (List.getElem?_eq_some_iff.mp he).1
      unfold rng0 at li
      rw [List.length_map, List.length_range] at li
      have h2 := p2.has hp
      array_get_dec
      refine sizes_go ?_
      array_get_dec
      refine sizes_go ?_
      array_get_dec
      rw [List.length_map]
      refine take_go h2.app (by omega) (by omega) fun a S3' a0 a1 p3' => ?_
      obtain ⟨S3, rfl, p3⟩ := p3'.app h2
      obtain ⟨s, hs, es1⟩ := at_ints (L := sizesL n) a0 a1
      obtain ⟨s2, sm⟩ := sizes_mem hs
      refine o_ixL es1 ?_
      have h3 := p3.has h2
      array_get_dec
      refine take_go h3.app (by decide) (by decide) fun t1 S4' t10 t11 p4' => ?_
      obtain ⟨S4, rfl, p4⟩ := p4'.app h3
      have h4 := p4.has h3
      array_get_dec
      refine take_go h4.app (by decide) (by decide) fun t2 S5' t20 t21 p5' => ?_
      obtain ⟨S5, rfl, p5⟩ := p5'.app h4
      have h5 := p5.has h4
      array_get_dec
      refine take_go h5.app (by decide) (by decide) fun j S6' j0 j1 p6' => ?_
      obtain ⟨S6, rfl, p6⟩ := p6'.app h5
      have h6 := p6.has h5
      obtain ⟨t, ht, et⟩ := at_ints (L := [1, -1, 1 + t1, -7, 10 ^ (29 : Int).toNat + t2]) j0 (by show j < 5; omega)
      have big : (0 : Int) < 10 ^ (29 : Int).toNat := by decide
      have tn : t ≠ 0 := by
        simp only [List.mem_cons, List.not_mem_nil, or_false] at ht
        omega
      have tb : t.natAbs < 2 ^ 100 := by
        simp only [List.mem_cons, List.not_mem_nil, or_false] at ht
        have e29 : (10 : Int) ^ (29 : Int).toNat = 100000000000000000000000000000 := by decide
        omega
      refine o_ixL et ?_
      have l6 : S6.length = S.length := by rw [p6.len, p5.len, p4.len, p3.len, p2.len]
      array_get_dec
      refine ⟨S.length, es, rfl, last_get l6, ?_⟩
      have g0 : 0 < n / s := by
        have hd := Int.emod_add_mul_ediv n s
        rcases s2 with rfl | rfl | rfl | rfl <;> omega
      have g1 : n / s ≤ n := Int.ediv_le_self _ (by omega)
      array_get_dec
      refine take_go h6.app g0 (by omega) fun a2 S7' a20 a21 p7' => ?_
      obtain ⟨S7, rfl, p7⟩ := p7'.app h6
      array_get_dec
      have l7 : S7.length = S.length := by rw [p7.len, l6]
      refine ⟨_, es, rfl, last_get l7, by omega, ?_⟩
      rw [st_setN l7]
      refine ⟨_, _, _, rfl, S7, _, rfl, ((((p2.trans p3).trans p4).trans p5).trans p6).trans p7, by rw [List.length_append, le]; rfl, fun r hr => ?_⟩
      rcases List.mem_append.mp hr with h | h
      · exact hes r h
      · rw [List.mem_singleton] at h
        subst h
        refine ⟨a2, s, t, rfl, ?_, tb⟩
        show ((true && (true && true)) && ((decide (s = 2) || (decide (s = 3) || (decide (s = 5) || decide (s = 7)))) && (decide (n % s = 0) && ((decide (0 ≤ a2) && decide (a2 < n / s)) && !decide (t = 0))))) = true
        simp only [Bool.and_eq_true, Bool.or_eq_true, decide_eq_true_eq, Bool.not_eq_true', decide_eq_false_iff_not, and_true, true_and]
        exact ⟨s2, sm, ⟨a20, a21⟩, tn⟩
    · rintro ρ S' ⟨v1, v2, v3, rfl, S2, es, rfl, p2, le, hes⟩
      array_get_dec
      refine c_tupL (ls_mu (last_get p2.len)) ?_
      refine rr_cut p2.len (q1 es S2 p2 ?_ hes)
      unfold rng0 at le
      rw [List.length_map, List.length_range] at le
      omega
theorem ok_l_at (F : FnP K "_law_at" s_l_at f fd) (T : Txt K mg)  : FnOk P w K mg base CX0 1 f fd ["_law_row", "_law_at_here", "_law_thing"] (lift K sd_lat) := by
  refine F.ok sc_l_at (fun vs H Q E h => ?_) (fun cdv A outer s H vs Q E hr h => ?_)
  · obtain ⟨A, S, rs, Φ, so, rr, h, _⟩ := h
    obtain ⟨d, ds, i, x, rfl, ht, hi, hl, k⟩ := h
    exact (Paired.length rr).symm
  · obtain ⟨A, S, rs, Φ, so, rr, h, q⟩ := h
    obtain ⟨d, ds, i, x, rfl, ht, hi, hl, k⟩ := h
    replace rr := plain1 ht rr
    refine ⟨_, PSs.nox (pss_one (ps_ret (pe_op op_catA (pe_op op_catA (pe_slice sl_tupA (pv 0) po_none (po_some (pv 1))) (pe_tup (pa_cons (pv 2) pa_nil))) (pe_slice sl_tupA (pv 0) (po_some (pe_op op_add (pv 1) pe_int)) po_none)))), fn_body 0 rfl so rr q ?_⟩
    try dsimp only [cxOf, Cx.nox, Cx.wish]
    have c1 := cut_to ds i (by omega)
    have c2 : Dl.cutD ds (some ((i : Int) + 1)) none = ds.drop (i + 1) := cut_from ds (i + 1) (by omega)
    array_get_dec
    all_goals rw [c1]
    · rw [List.length_take, List.length_singleton]
      omega
    · rw [c2, List.length_append, List.length_take, List.length_drop, List.length_singleton]
      omega
    · rw [c2]
      exact rr_dat k
end
end K34

namespace K34
open PySem PySem.Spec PyProof.Rows L2 Evl Dl
/-- a claim and a paper that are reckoned -/
def Cp (c p : D) : Prop := Ck.pd c = true ∧ Ck.pd p = true ∧ few p ∧ (∀ y, Ck.items c = some [.str "away", y] → Ck.small y ∧ Ck.lowM p) ∧ (∀ x y ds, Ck.items c = some (.str x :: y :: ds) → ds ≠ [] → x ≠ "least" ∧ x ≠ "fewest")
def sd_lis : Sd := fun rs S Φ => ∃ (c p : D) (b : Bool), rs = [.dat c, .dat p, .dat (.bl b)] ∧ Cp c p ∧ Φ (.bl (decide ((Ck.homeB c p || Ck.awayB c p) = b))) S
def sd_lmodulus : Sd := fun rs S Φ => ∃ (k n : Nat), rs = [.mu k, .dat (.int (n : Nat))] ∧ Has k S ∧ Ck.isMany (n : Nat) = true ∧ ∀ (m : Int) (S1 : Store), Pk k S S1 → Ck.Good (n : Nat) m → Φ (.int m) S1
section
variable {P : Program} {w : World} {K : PySem.W.Frag} {mg : Str → Option Value} {base : Heap} {f : Addr} {fd : FuncData}
theorem ok_l_is (F : FnP K "_law_is" s_l_is f fd) (T : Txt K mg) (D_holds : Dn P w K mg base 6 "holds" ["claim", "paper"] (lift K sd_holds)) : FnOk P w K mg base CX0 7 f fd ["_law_claim", "_law_paper", "_law_due"] (lift K sd_lis) := by
  refine F.ok sc_l_is (fun vs H Q E h => ?_) (fun cdv A outer s H vs Q E hr h => ?_)
  · obtain ⟨A, S, rs, Φ, so, rr, h, _⟩ := h
    obtain ⟨c, p, b, rfl, ⟨hc, hp, hf, h1, h2⟩, k⟩ := h
    exact (Paired.length rr).symm
  · obtain ⟨A, S, rs, Φ, so, rr, h, q⟩ := h
    obtain ⟨c, p, b, rfl, ⟨hc, hp, hf, h1, h2⟩, k⟩ := h
    refine ⟨_, PSs.nox (pss_cons (ps_set (i := 3) sc_l_is.nd rfl (Or.inl rfl) (pe_cd D_holds (hr.mono (by decide)) (by rfl) (pa_cons (pv 0) (pa_cons (pv 1) pa_nil))))
      (pss_one (ps_ret (pe_and (pe_callB call_isi (by rfl) T.b_isinstance (by decide +kernel) (pa_cons (pv 3) (pa_cons (pe_bltn (v := .ty "bool") (by rfl) T.b_bool (by decide +kernel) rfl) pa_nil))) (pe_one (pe_cmpR op_eq (pv 3) (pv 2) (nomark _))))))), fn_body 1 rfl so rr q ?_⟩
    try dsimp only [cxOf, Cx.nox, Cx.wish]
    array_get_dec
    refine ⟨c, p, rfl, hc, hp, hf, h1, h2, ?_⟩
    array_get_dec
    exact rr_dat k
theorem ok_l_modulus (F : FnP K "_law_modulus" s_l_modulus f fd) (T : Txt K mg) (D_l_take : Dn P w K mg base 1 "_law_take" ["_law_pool_here", "_law_many_here"] (lift K sd_take)) (D_l_primes : Dn P w K mg base 1 "_law_primes" ["_law_many_here"] (lift K sd_lprimes)) : FnOk P w K mg base CX0 2 f fd ["_law_pool_here", "_law_many_here"] (lift K sd_lmodulus) := by
  refine F.ok sc_l_modulus (fun vs H Q E h => ?_) (fun cdv A outer s H vs Q E hr h => ?_)
  · obtain ⟨A, S, rs, Φ, so, rr, h, _⟩ := h
    obtain ⟨k, n, rfl, hp, hn, q1⟩ := h
    exact (Paired.length rr).symm
  · obtain ⟨A, S, rs, Φ, so, rr, h, q⟩ := h
    obtain ⟨k, n, rfl, hp, hn, q1⟩ := h
    refine ⟨_, PSs.nox (pss_cons (ps_asg (pe_cd D_l_primes (hr.mono (by decide)) (by rfl) (pa_cons (pv 1) pa_nil)) (pg_lst rfl (pgs_cons (pg_name (i := 2) sc_l_modulus.nd rfl (Or.inl rfl)) (pgs_cons (pg_name (i := 3) sc_l_modulus.nd rfl (Or.inl rfl)) pgs_nil))))
      (pss_cons (ps_set (i := 4) sc_l_modulus.nd rfl (Or.inl rfl) (pe_cd D_l_take (hr.mono (by decide)) (by rfl) (pa_cons (pv 0) (pa_cons pe_int pa_nil))))
      (pss_cons (ps_if (PW.pt (pw_and (pt_cmpR op_eq (pv 4) pe_int (nomark _)) (pw_and1 (pt_cmpR op_lt (pv 1) pe_int (nomark _))))) (pss_one (ps_ret (pe_op op_mulW (pv 2) (pv 3)))) pss_nil)
      (pss_one (ps_ret (pe_ix ix_list (pe_lst (pa_cons (pv 2) (pa_cons (pv 3) (pa_cons (pv 2) (pa_cons (pv 3) pa_nil))))) (pv 4) (fun _ _ => rfl))))))), fn_body 3 rfl so rr q ?_⟩
    try dsimp only [cxOf, Cx.nox, Cx.wish]
    have hl := many_le hn
    array_get_dec
    refine ⟨n, rfl, hn, fun p q g1 g2 g3 => ?_⟩
    have b1 := g1.1
    have b2 := g2.1
    array_get_dec
    refine take_go hp (by decide) (by decide) fun a S1 a0 a1 p1 => ?_
    have ix : ∃ v, atI [D.int (p : Nat), .int (q : Nat), .int (p : Nat), .int (q : Nat)] a = some (.int v) ∧ Ck.Good (n : Nat) v := by
      obtain ⟨v, hv, ev⟩ := at_ints (L := [(p : Int), (q : Int), (p : Int), (q : Int)]) a0 (by show a < 4; omega)
      refine ⟨v, ev, ?_⟩
      simp only [List.mem_cons, List.not_mem_nil, or_false] at hv
      rcases hv with rfl | rfl | rfl | rfl <;> assumption
    obtain ⟨v, ev, gv⟩ := ix
    array_get_dec
    · rename_i h1 h2
      have g4 := g3 (by omega)
      rw [Int.natCast_mul] at g4
      exact rr_len p1.len (q1 _ S1 p1 g4)
    · exact o_ixL ev (rr_len p1.len (q1 v S1 p1 gv))
    · exact o_ixL ev (rr_len p1.len (q1 v S1 p1 gv))
end
end K34

namespace K34
open PySem PySem.Spec PyProof.Rows L2 Evl Dl
def sd_ljudged : Sd := fun rs S Φ => ∃ (c p : D), rs = [.dat c, .dat p] ∧ Cp c p ∧ Φ (.bl (Ck.awayB c p)) S
theorem row2 {d : D} (h : rowB d 2 = true) : ∃ a b : Int, d = .tup [.int a, .int b] ∨ d = .ftup [.int a, .int b] := by
  unfold rowB at h
  cases e : Ck.items d with
  | none => rw [e] at h; cases h
  | some ds =>
    rw [e] at h
    have h : (decide ((ds.length : Int) = 2) && ds.all Ck.isWh) = true := h
    rw [Bool.and_eq_true] at h
    have hl := of_decide_eq_true h.1
    have hw := Ck.whs h.2
    match ds, hl, hw with
    | [a, b], _, hw => exact ⟨_, _, by rw [hw] at e; exact items_some e⟩
theorem away_row {l p : D} (h : rowB p 2 = false) : Ck.awayL l p = false := by
  unfold Ck.awayL
  unfold rowB at h
  cases e : Ck.items p with
  | none => exact Bool.and_false _
  | some ds =>
    rw [e] at h
    have h : (decide ((ds.length : Int) = 2) && ds.all Ck.isWh) = false := h
    match ds, h with
    | [], _ => exact Bool.and_false _
    | [_], _ => exact Bool.and_false _
    | [a, b], h =>
      have h : (Ck.isWh a && (Ck.isWh b && true)) = false := h
      rw [Bool.and_true] at h
      simp [h]
    | _ :: _ :: _ :: _, _ => exact Bool.and_false _
section
variable {P : Program} {w : World} {K : PySem.W.Frag} {mg : Str → Option Value} {base : Heap} {f : Addr} {fd : FuncData}
theorem ok_l_judged (F : FnP K "_law_judged" s_l_judged f fd) (T : Txt K mg) (D_l_is_root : Dn P w K mg base 2 "_law_is_root" ["_law_root_here", "_law_many_here", "_law_modulus_here"] (lift K sd_lis_root)) (D_l_comes : Dn P w K mg base 1 "_law_comes" ["_law_lengths_here", "_law_root_here", "_law_modulus_here"] (lift K sd_lcomes)) (D_l_is_many : Dn P w K mg base 1 "_law_is_many" ["_law_many_here"] (lift K sd_lis_many)) (D_l_row_of : Dn P w K mg base 2 "_law_row_of" ["_law_thing", "_law_many_here"] (lift K sd_row_of)) : FnOk P w K mg base CX0 3 f fd ["_law_claim", "_law_paper"] (lift K sd_ljudged) := by
  refine F.ok sc_l_judged (fun vs H Q E h => ?_) (fun cdv A outer s H vs Q E hr h => ?_)
  · obtain ⟨A, S, rs, Φ, so, rr, h, _⟩ := h
    obtain ⟨c, p, rfl, ⟨hc, hp, hf, haw, hle⟩, k⟩ := h
    exact (Paired.length rr).symm
  · obtain ⟨A, S, rs, Φ, so, rr, h, q⟩ := h
    obtain ⟨c, p, rfl, ⟨hc, hp, hf, haw, hle⟩, k⟩ := h
    rcases tup_cases c with ⟨ds, hi, ht⟩ | ⟨hi, hn2⟩
    · replace rr := plain1 ht rr
      have pi := pd_items hc ht
      unfold Ck.awayB at k
      rw [hi] at k
      by_cases hl : ds.length = 2
      · obtain ⟨x, l, rfl⟩ : ∃ x l, ds = [x, l] := by
          match ds, hl with
          | [x, l], _ => exact ⟨x, l, rfl⟩
        have px := pi x (by simp)
        have pl := pi l (by simp)
        have plx := Ck.pd_Pl px
        have pll := Ck.pd_Pl pl
        by_cases hs : x = .str "away"
        · subst hs
          obtain ⟨hsm, hlm⟩ := haw l hi
          have k0 : Φ (.bl (Ck.awayL l p)) S := k
          rcases tup_cases l with ⟨es, hei, het⟩ | ⟨hei, hen⟩
          · have el : Ck.lensOf l = es.map Ck.intOf := by
              unfold Ck.lensOf
              rw [hei]
              rfl
            have eb : Ck.lensB l = (Ck.isMany (es.length : Nat) && es.all Ck.isWh) := by
              unfold Ck.lensB
              rw [hei]
            have er : rowB l (es.length : Nat) = es.all Ck.isWh := by
              unfold rowB
              rw [hei]
              show (decide ((es.length : Int) = (es.length : Nat)) && es.all Ck.isWh) = _
              rw [decide_eq_true rfl]
              rfl
            have kf : Ck.lensB l = false → Φ (.bl false) S := fun h => by
              unfold Ck.awayL at k0
              rw [h] at k0
              exact k0
            by_cases hr2 : rowB p 2 = true
            · obtain ⟨m, r, hpe⟩ := row2 hr2
              have ip : Ck.items p = some [.int m, .int r] := by
                rcases hpe with rfl | rfl <;> rfl
              have mb := hlm m (.int r) ip
              unfold Ck.awayL at k0
              rw [ip, eb, el, List.length_map] at k0
              have k1 : Φ (.bl ((Ck.isMany (es.length : Nat) && es.all Ck.isWh) && ((decide (2 ≤ m) && (decide (0 ≤ r) && decide (r < m))) && (Ck.fits (es.length : Nat) m r && !decide (Ck.ev (es.map Ck.intOf) r % m = 0))))) S := k0
              have rr1 := plain2 hpe rr
              have hp1 : Ck.pd (.tup [.int m, .int r]) = true := by simp [Ck.pd, Ck.pdL]
              have hr3 : rowB (.tup [.int m, .int r]) 2 = true := rfl
              clear rr
              have rr := rr1
              rcases het with rfl | rfl
              all_goals
                refine ⟨_, PSs.nox (pss_cons (ps_if (PW.pt (pw_or (pt_not (pt_val (pe_callB call_isi (by rfl) T.b_isinstance (by decide +kernel) (pa_cons (pv 0) (pa_cons (pe_bltn (v := .ty "tuple") (by rfl) T.b_tuple (by decide +kernel) rfl) pa_nil))))) (pw_or (pt_cmpR op_ne (pe_callB call_len_seq (by rfl) T.b_len (by decide +kernel) (pa_cons (pv 0) pa_nil)) pe_int (nomark _)) (pw_or (pt_not (pt_val (pe_callB call_isi (by rfl) T.b_isinstance (by decide +kernel) (pa_cons (pe_ix ix_tup (pv 0) pe_int (fun _ _ => rfl)) (pa_cons (pe_bltn (v := .ty "str") (by rfl) T.b_str (by decide +kernel) rfl) pa_nil))))) (pw_or1 (pt_cmpR op_ne (pe_ix ix_tup (pv 0) pe_int (fun _ _ => rfl)) pe_str (nomark _))))))) (pss_one (ps_ret pe_bl)) pss_nil)
      (pss_cons (ps_set (i := 2) sc_l_judged.nd rfl (Or.inl rfl) (pe_ix ix_tup (pv 0) pe_int (fun _ _ => rfl)))
      (pss_cons (ps_if (PW.pt (pw_or (pt_not (pt_val (pe_callB call_isi (by rfl) T.b_isinstance (by decide +kernel) (pa_cons (pv 2) (pa_cons (pe_bltn (v := .ty "tuple") (by rfl) T.b_tuple (by decide +kernel) rfl) pa_nil))))) (pw_or (pt_not (pt_val (pe_cd D_l_is_many (hr.mono (by decide)) (by rfl) (pa_cons (pe_callB call_len_seq (by rfl) T.b_len (by decide +kernel) (pa_cons (pv 2) pa_nil)) pa_nil)))) (pw_or1 (pt_not (pt_val (pe_cd D_l_row_of (hr.mono (by decide)) (by rfl) (pa_cons (pv 2) (pa_cons (pe_callB call_len_seq (by rfl) T.b_len (by decide +kernel) (pa_cons (pv 2) pa_nil)) pa_nil))))))))) (pss_one (ps_ret pe_bl)) pss_nil)
      (pss_cons (ps_if (PW.pt (pw_or (pt_not (pt_val (pe_cd D_l_row_of (hr.mono (by decide)) (by rfl) (pa_cons (pv 1) (pa_cons pe_int pa_nil))))) (pw_or (pt_cmpR op_lt (pe_ix ix_tup (pv 1) pe_int (fun _ _ => rfl)) pe_int (nomark _)) (pw_or1 (pt_not (pt_chain op_le op_lt pe_int (pe_ix ix_tup (pv 1) pe_int (fun _ _ => rfl)) (pe_ix ix_tup (pv 1) pe_int (fun _ _ => rfl)))))))) (pss_one (ps_ret pe_bl)) pss_nil)
      (pss_cons (ps_if (pt_cmpR op_eq (pe_cd D_l_comes (hr.mono (by decide)) (by rfl) (pa_cons (pv 2) (pa_cons (pe_ix ix_tup (pv 1) pe_int (fun _ _ => rfl)) (pa_cons (pe_ix ix_tup (pv 1) pe_int (fun _ _ => rfl)) pa_nil)))) pe_int (nomark _)) (pss_one (ps_ret pe_bl)) pss_nil)
      (pss_one (ps_ret (pe_cd D_l_is_root (hr.mono (by decide)) (by rfl) (pa_cons (pe_ix ix_tup (pv 1) pe_int (fun _ _ => rfl)) (pa_cons (pe_callB call_len_seq (by rfl) T.b_len (by decide +kernel) (pa_cons (pv 2) pa_nil)) (pa_cons (pe_ix ix_tup (pv 1) pe_int (fun _ _ => rfl)) pa_nil))))))))))), fn_body 1 rfl so rr q ?_⟩
                try dsimp only [cxOf, Cx.nox, Cx.wish]
                array_get_dec
                refine ⟨_, rfl, ?_⟩
                array_get_dec
                · rename_i hm
                  exact rr_dat (kf (by rw [eb, hm]; rfl))
                rename_i hm
                have lm := many_le hm
                refine row_of_go pl (by omega) ?_
                rw [er]
                array_get_dec
                · rename_i hr
                  exact rr_dat (kf (by rw [eb, hr, Bool.and_false]))
                rename_i hr
                rw [hm, hr] at k1
                refine row_of_go hp1 (by decide) ?_
                rw [hr3]
                array_get_dec
                all_goals first
                  | (refine rr_dat ?_
                     have z : (decide (2 ≤ m) && (decide (0 ≤ r) && decide (r < m))) = false := by
                       rw [← Bool.not_eq_true]
                       simp only [Bool.and_eq_true, decide_eq_true_eq]
                       omega
                     rw [z] at k1
                     exact k1)
                  | skip
                have ew := Ck.whs hr
                have z : (decide (2 ≤ m) && (decide (0 ≤ r) && decide (r < m))) = true := by
                  simp only [Bool.and_eq_true, decide_eq_true_eq]
                  omega
                rw [z] at k1
                refine ⟨_, es.map Ck.intOf, r, m, rfl, by first | exact .inl (congrArg D.tup ew) | exact .inr (congrArg D.ftup ew), by rw [List.length_map]; omega, by omega, by omega, ?_⟩
                array_get_dec
                · rename_i hz
                  rw [decide_eq_true hz, Bool.not_true, Bool.and_false] at k1
                  exact rr_dat k1
                · rename_i hz
                  rw [decide_eq_false hz] at k1
                  replace k1 : Φ (.bl (Ck.fits (es.length : Nat) m r)) S := by simpa using k1
                  refine lis_root_go (by omega) (by omega) (by omega) ?_
                  exact rr_dat k1
            · have hr2 : rowB p 2 = false := by simpa using hr2
              have k1 : Φ (.bl false) S := by
                rw [away_row hr2] at k0
                exact k0
              rcases tup_cases p with ⟨ps, hip, htp⟩ | ⟨hip, hnp⟩
              · have hp1 : Ck.pd (.tup ps) = true := by
                  rcases htp with rfl | rfl
                  · exact hp
                  · simpa [Ck.pd] using hp
                have hr3 : rowB (.tup ps) 2 = false := by
                  unfold rowB at hr2
                  rw [hip] at hr2
                  exact hr2
                have rr1 := plain2 htp rr
                clear rr
                have rr := rr1
                rcases het with rfl | rfl
                all_goals
                  refine ⟨_, PSs.nox (pss_cons (ps_if (PW.pt (pw_or (pt_not (pt_val (pe_callB call_isi (by rfl) T.b_isinstance (by decide +kernel) (pa_cons (pv 0) (pa_cons (pe_bltn (v := .ty "tuple") (by rfl) T.b_tuple (by decide +kernel) rfl) pa_nil))))) (pw_or (pt_cmpR op_ne (pe_callB call_len_seq (by rfl) T.b_len (by decide +kernel) (pa_cons (pv 0) pa_nil)) pe_int (nomark _)) (pw_or (pt_not (pt_val (pe_callB call_isi (by rfl) T.b_isinstance (by decide +kernel) (pa_cons (pe_ix ix_tup (pv 0) pe_int (fun _ _ => rfl)) (pa_cons (pe_bltn (v := .ty "str") (by rfl) T.b_str (by decide +kernel) rfl) pa_nil))))) (pw_or1 (pt_cmpR op_ne (pe_ix ix_tup (pv 0) pe_int (fun _ _ => rfl)) pe_str (nomark _))))))) (pss_one (ps_ret pe_bl)) pss_nil)
      (pss_cons (ps_set (i := 2) sc_l_judged.nd rfl (Or.inl rfl) (pe_ix ix_tup (pv 0) pe_int (fun _ _ => rfl)))
      (pss_cons (ps_if (PW.pt (pw_or (pt_not (pt_val (pe_callB call_isi (by rfl) T.b_isinstance (by decide +kernel) (pa_cons (pv 2) (pa_cons (pe_bltn (v := .ty "tuple") (by rfl) T.b_tuple (by decide +kernel) rfl) pa_nil))))) (pw_or (pt_not (pt_val (pe_cd D_l_is_many (hr.mono (by decide)) (by rfl) (pa_cons (pe_callB call_len_seq (by rfl) T.b_len (by decide +kernel) (pa_cons (pv 2) pa_nil)) pa_nil)))) (pw_or1 (pt_not (pt_val (pe_cd D_l_row_of (hr.mono (by decide)) (by rfl) (pa_cons (pv 2) (pa_cons (pe_callB call_len_seq (by rfl) T.b_len (by decide +kernel) (pa_cons (pv 2) pa_nil)) pa_nil))))))))) (pss_one (ps_ret pe_bl)) pss_nil)
      (pss_cons (ps_if (PW.pt (pw_or (pt_not (pt_val (pe_cd D_l_row_of (hr.mono (by decide)) (by rfl) (pa_cons (pv 1) (pa_cons pe_int pa_nil))))) (pw_or (pt_cmpR op_lt (pe_ix ix_tup (pv 1) pe_int (fun _ _ => rfl)) pe_int (nomark _)) (pw_or1 (pt_not (pt_chain op_le op_lt pe_int (pe_ix ix_tup (pv 1) pe_int (fun _ _ => rfl)) (pe_ix ix_tup (pv 1) pe_int (fun _ _ => rfl)))))))) (pss_one (ps_ret pe_bl)) pss_nil)
      (pss_cons (ps_if (pt_cmpR op_eq (pe_cd D_l_comes (hr.mono (by decide)) (by rfl) (pa_cons (pv 2) (pa_cons (pe_ix ix_tup (pv 1) pe_int (fun _ _ => rfl)) (pa_cons (pe_ix ix_tup (pv 1) pe_int (fun _ _ => rfl)) pa_nil)))) pe_int (nomark _)) (pss_one (ps_ret pe_bl)) pss_nil)
      (pss_one (ps_ret (pe_cd D_l_is_root (hr.mono (by decide)) (by rfl) (pa_cons (pe_ix ix_tup (pv 1) pe_int (fun _ _ => rfl)) (pa_cons (pe_callB call_len_seq (by rfl) T.b_len (by decide +kernel) (pa_cons (pv 2) pa_nil)) (pa_cons (pe_ix ix_tup (pv 1) pe_int (fun _ _ => rfl)) pa_nil))))))))))), fn_body 1 rfl so rr q ?_⟩
                  try dsimp only [cxOf, Cx.nox, Cx.wish]
                  array_get_dec
                  refine ⟨_, rfl, ?_⟩
                  array_get_dec
                  · exact rr_dat k1
                  rename_i hm
                  have lm := many_le hm
                  refine row_of_go pl (by omega) ?_
                  rw [er]
                  array_get_dec
                  · exact rr_dat k1
                  refine row_of_go hp1 (by decide) ?_
                  rw [hr3]
                  array_get_dec
                  exact rr_dat k1
              · rcases het with rfl | rfl
                all_goals
                  refine ⟨_, PSs.nox (pss_cons (ps_if (PW.pt (pw_or (pt_not (pt_val (pe_callB call_isi (by rfl) T.b_isinstance (by decide +kernel) (pa_cons (pv 0) (pa_cons (pe_bltn (v := .ty "tuple") (by rfl) T.b_tuple (by decide +kernel) rfl) pa_nil))))) (pw_or (pt_cmpR op_ne (pe_callB call_len_seq (by rfl) T.b_len (by decide +kernel) (pa_cons (pv 0) pa_nil)) pe_int (nomark _)) (pw_or (pt_not (pt_val (pe_callB call_isi (by rfl) T.b_isinstance (by decide +kernel) (pa_cons (pe_ix ix_tup (pv 0) pe_int (fun _ _ => rfl)) (pa_cons (pe_bltn (v := .ty "str") (by rfl) T.b_str (by decide +kernel) rfl) pa_nil))))) (pw_or1 (pt_cmpR op_ne (pe_ix ix_tup (pv 0) pe_int (fun _ _ => rfl)) pe_str (nomark _))))))) (pss_one (ps_ret pe_bl)) pss_nil)
      (pss_cons (ps_set (i := 2) sc_l_judged.nd rfl (Or.inl rfl) (pe_ix ix_tup (pv 0) pe_int (fun _ _ => rfl)))
      (pss_cons (ps_if (PW.pt (pw_or (pt_not (pt_val (pe_callB call_isi (by rfl) T.b_isinstance (by decide +kernel) (pa_cons (pv 2) (pa_cons (pe_bltn (v := .ty "tuple") (by rfl) T.b_tuple (by decide +kernel) rfl) pa_nil))))) (pw_or (pt_not (pt_val (pe_cd D_l_is_many (hr.mono (by decide)) (by rfl) (pa_cons (pe_callB call_len_seq (by rfl) T.b_len (by decide +kernel) (pa_cons (pv 2) pa_nil)) pa_nil)))) (pw_or1 (pt_not (pt_val (pe_cd D_l_row_of (hr.mono (by decide)) (by rfl) (pa_cons (pv 2) (pa_cons (pe_callB call_len_seq (by rfl) T.b_len (by decide +kernel) (pa_cons (pv 2) pa_nil)) pa_nil))))))))) (pss_one (ps_ret pe_bl)) pss_nil)
      (pss_cons (ps_if (PW.pt (pw_or (pt_not (pt_val (pe_cd D_l_row_of (hr.mono (by decide)) (by rfl) (pa_cons (pv 1) (pa_cons pe_int pa_nil))))) (pw_or (pt_cmpR op_lt (pe_ix ix_tup (pv 1) pe_int (fun _ _ => rfl)) pe_int (nomark _)) (pw_or1 (pt_not (pt_chain op_le op_lt pe_int (pe_ix ix_tup (pv 1) pe_int (fun _ _ => rfl)) (pe_ix ix_tup (pv 1) pe_int (fun _ _ => rfl)))))))) (pss_one (ps_ret pe_bl)) pss_nil)
      (pss_cons (ps_if (pt_cmpR op_eq (pe_cd D_l_comes (hr.mono (by decide)) (by rfl) (pa_cons (pv 2) (pa_cons (pe_ix ix_tup (pv 1) pe_int (fun _ _ => rfl)) (pa_cons (pe_ix ix_tup (pv 1) pe_int (fun _ _ => rfl)) pa_nil)))) pe_int (nomark _)) (pss_one (ps_ret pe_bl)) pss_nil)
      (pss_one (ps_ret (pe_cd D_l_is_root (hr.mono (by decide)) (by rfl) (pa_cons (pe_ix ix_tup (pv 1) pe_int (fun _ _ => rfl)) (pa_cons (pe_callB call_len_seq (by rfl) T.b_len (by decide +kernel) (pa_cons (pv 2) pa_nil)) (pa_cons (pe_ix ix_tup (pv 1) pe_int (fun _ _ => rfl)) pa_nil))))))))))), fn_body 1 rfl so rr q ?_⟩
                  try dsimp only [cxOf, Cx.nox, Cx.wish]
                  array_get_dec
                  refine ⟨_, rfl, ?_⟩
                  array_get_dec
                  · exact rr_dat k1
                  rename_i hm
                  have lm := many_le hm
                  refine row_of_go pl (by omega) ?_
                  rw [er]
                  array_get_dec
                  · exact rr_dat k1
                  refine row_of_go hp (by decide) ?_
                  rw [hr2]
                  array_get_dec
                  exact rr_dat k1
          · have eb : Ck.lensB l = false := by
              unfold Ck.lensB
              rw [hei]
            unfold Ck.awayL at k0
            rw [eb] at k0
            refine ⟨_, PSs.nox (pss_cons (ps_if (PW.pt (pw_or (pt_not (pt_val (pe_callB call_isi (by rfl) T.b_isinstance (by decide +kernel) (pa_cons (pv 0) (pa_cons (pe_bltn (v := .ty "tuple") (by rfl) T.b_tuple (by decide +kernel) rfl) pa_nil))))) (pw_or (pt_cmpR op_ne (pe_callB call_len_seq (by rfl) T.b_len (by decide +kernel) (pa_cons (pv 0) pa_nil)) pe_int (nomark _)) (pw_or (pt_not (pt_val (pe_callB call_isi (by rfl) T.b_isinstance (by decide +kernel) (pa_cons (pe_ix ix_tup (pv 0) pe_int (fun _ _ => rfl)) (pa_cons (pe_bltn (v := .ty "str") (by rfl) T.b_str (by decide +kernel) rfl) pa_nil))))) (pw_or1 (pt_cmpR op_ne (pe_ix ix_tup (pv 0) pe_int (fun _ _ => rfl)) pe_str (nomark _))))))) (pss_one (ps_ret pe_bl)) pss_nil)
      (pss_cons (ps_set (i := 2) sc_l_judged.nd rfl (Or.inl rfl) (pe_ix ix_tup (pv 0) pe_int (fun _ _ => rfl)))
      (pss_cons (ps_if (PW.pt (pw_or (pt_not (pt_val (pe_callB call_isi (by rfl) T.b_isinstance (by decide +kernel) (pa_cons (pv 2) (pa_cons (pe_bltn (v := .ty "tuple") (by rfl) T.b_tuple (by decide +kernel) rfl) pa_nil))))) (pw_or (pt_not (pt_val (pe_cd D_l_is_many (hr.mono (by decide)) (by rfl) (pa_cons (pe_callB call_len_seq (by rfl) T.b_len (by decide +kernel) (pa_cons (pv 2) pa_nil)) pa_nil)))) (pw_or1 (pt_not (pt_val (pe_cd D_l_row_of (hr.mono (by decide)) (by rfl) (pa_cons (pv 2) (pa_cons (pe_callB call_len_seq (by rfl) T.b_len (by decide +kernel) (pa_cons (pv 2) pa_nil)) pa_nil))))))))) (pss_one (ps_ret pe_bl)) pss_nil)
      (pss_cons (ps_if (PW.pt (pw_or (pt_not (pt_val (pe_cd D_l_row_of (hr.mono (by decide)) (by rfl) (pa_cons (pv 1) (pa_cons pe_int pa_nil))))) (pw_or (pt_cmpR op_lt (pe_ix ix_tup (pv 1) pe_int (fun _ _ => rfl)) pe_int (nomark _)) (pw_or1 (pt_not (pt_chain op_le op_lt pe_int (pe_ix ix_tup (pv 1) pe_int (fun _ _ => rfl)) (pe_ix ix_tup (pv 1) pe_int (fun _ _ => rfl)))))))) (pss_one (ps_ret pe_bl)) pss_nil)
      (pss_cons (ps_if (pt_cmpR op_eq (pe_cd D_l_comes (hr.mono (by decide)) (by rfl) (pa_cons (pv 2) (pa_cons (pe_ix ix_tup (pv 1) pe_int (fun _ _ => rfl)) (pa_cons (pe_ix ix_tup (pv 1) pe_int (fun _ _ => rfl)) pa_nil)))) pe_int (nomark _)) (pss_one (ps_ret pe_bl)) pss_nil)
      (pss_one (ps_ret (pe_cd D_l_is_root (hr.mono (by decide)) (by rfl) (pa_cons (pe_ix ix_tup (pv 1) pe_int (fun _ _ => rfl)) (pa_cons (pe_callB call_len_seq (by rfl) T.b_len (by decide +kernel) (pa_cons (pv 2) pa_nil)) (pa_cons (pe_ix ix_tup (pv 1) pe_int (fun _ _ => rfl)) pa_nil))))))))))), fn_body 1 rfl so rr q ?_⟩
            try dsimp only [cxOf, Cx.nox, Cx.wish]
            array_get_dec
            · exact rr_dat k0
            all_goals (rename_i hb; rw [hen] at hb; cases hb)
        · have k1 : Φ (.bl false) S := by
            cases x with
            | str z =>
              have k2 : Φ (.bl (decide (z = "away") && Ck.awayL l p)) S := k
              rw [decide_eq_false (fun e => hs (by rw [e]))] at k2
              exact k2
            | _ => exact k
          have hx : x.isStr = false ∨ ∃ z, x = .str z ∧ z ≠ "away" := by
            cases x with
            | str z => exact .inr ⟨z, rfl, fun e => hs (by rw [e])⟩
            | _ => exact .inl rfl
          rcases hx with hx | ⟨z, rfl, hz⟩
          · refine ⟨_, PSs.nox (pss_cons (ps_if (PW.pt (pw_or (pt_not (pt_val (pe_callB call_isi (by rfl) T.b_isinstance (by decide +kernel) (pa_cons (pv 0) (pa_cons (pe_bltn (v := .ty "tuple") (by rfl) T.b_tuple (by decide +kernel) rfl) pa_nil))))) (pw_or (pt_cmpR op_ne (pe_callB call_len_seq (by rfl) T.b_len (by decide +kernel) (pa_cons (pv 0) pa_nil)) pe_int (nomark _)) (pw_or (pt_not (pt_val (pe_callB call_isi (by rfl) T.b_isinstance (by decide +kernel) (pa_cons (pe_ix ix_tup (pv 0) pe_int (fun _ _ => rfl)) (pa_cons (pe_bltn (v := .ty "str") (by rfl) T.b_str (by decide +kernel) rfl) pa_nil))))) (pw_or1 (pt_cmpR op_ne (pe_ix ix_tup (pv 0) pe_int (fun _ _ => rfl)) pe_str (nomark _))))))) (pss_one (ps_ret pe_bl)) pss_nil)
      (pss_cons (ps_set (i := 2) sc_l_judged.nd rfl (Or.inl rfl) (pe_ix ix_tup (pv 0) pe_int (fun _ _ => rfl)))
      (pss_cons (ps_if (PW.pt (pw_or (pt_not (pt_val (pe_callB call_isi (by rfl) T.b_isinstance (by decide +kernel) (pa_cons (pv 2) (pa_cons (pe_bltn (v := .ty "tuple") (by rfl) T.b_tuple (by decide +kernel) rfl) pa_nil))))) (pw_or (pt_not (pt_val (pe_cd D_l_is_many (hr.mono (by decide)) (by rfl) (pa_cons (pe_callB call_len_seq (by rfl) T.b_len (by decide +kernel) (pa_cons (pv 2) pa_nil)) pa_nil)))) (pw_or1 (pt_not (pt_val (pe_cd D_l_row_of (hr.mono (by decide)) (by rfl) (pa_cons (pv 2) (pa_cons (pe_callB call_len_seq (by rfl) T.b_len (by decide +kernel) (pa_cons (pv 2) pa_nil)) pa_nil))))))))) (pss_one (ps_ret pe_bl)) pss_nil)
      (pss_cons (ps_if (PW.pt (pw_or (pt_not (pt_val (pe_cd D_l_row_of (hr.mono (by decide)) (by rfl) (pa_cons (pv 1) (pa_cons pe_int pa_nil))))) (pw_or (pt_cmpR op_lt (pe_ix ix_tup (pv 1) pe_int (fun _ _ => rfl)) pe_int (nomark _)) (pw_or1 (pt_not (pt_chain op_le op_lt pe_int (pe_ix ix_tup (pv 1) pe_int (fun _ _ => rfl)) (pe_ix ix_tup (pv 1) pe_int (fun _ _ => rfl)))))))) (pss_one (ps_ret pe_bl)) pss_nil)
      (pss_cons (ps_if (pt_cmpR op_eq (pe_cd D_l_comes (hr.mono (by decide)) (by rfl) (pa_cons (pv 2) (pa_cons (pe_ix ix_tup (pv 1) pe_int (fun _ _ => rfl)) (pa_cons (pe_ix ix_tup (pv 1) pe_int (fun _ _ => rfl)) pa_nil)))) pe_int (nomark _)) (pss_one (ps_ret pe_bl)) pss_nil)
      (pss_one (ps_ret (pe_cd D_l_is_root (hr.mono (by decide)) (by rfl) (pa_cons (pe_ix ix_tup (pv 1) pe_int (fun _ _ => rfl)) (pa_cons (pe_callB call_len_seq (by rfl) T.b_len (by decide +kernel) (pa_cons (pv 2) pa_nil)) (pa_cons (pe_ix ix_tup (pv 1) pe_int (fun _ _ => rfl)) pa_nil))))))))))), fn_body 1 rfl so rr q ?_⟩
            try dsimp only [cxOf, Cx.nox, Cx.wish]
            array_get_dec
            · exact rr_dat k1
            all_goals (rename_i hb; rw [hx] at hb; cases hb)
          · refine ⟨_, PSs.nox (pss_cons (ps_if (PW.pt (pw_or (pt_not (pt_val (pe_callB call_isi (by rfl) T.b_isinstance (by decide +kernel) (pa_cons (pv 0) (pa_cons (pe_bltn (v := .ty "tuple") (by rfl) T.b_tuple (by decide +kernel) rfl) pa_nil))))) (pw_or (pt_cmpR op_ne (pe_callB call_len_seq (by rfl) T.b_len (by decide +kernel) (pa_cons (pv 0) pa_nil)) pe_int (nomark _)) (pw_or (pt_not (pt_val (pe_callB call_isi (by rfl) T.b_isinstance (by decide +kernel) (pa_cons (pe_ix ix_tup (pv 0) pe_int (fun _ _ => rfl)) (pa_cons (pe_bltn (v := .ty "str") (by rfl) T.b_str (by decide +kernel) rfl) pa_nil))))) (pw_or1 (pt_cmpR op_ne (pe_ix ix_tup (pv 0) pe_int (fun _ _ => rfl)) pe_str (nomark _))))))) (pss_one (ps_ret pe_bl)) pss_nil)
      (pss_cons (ps_set (i := 2) sc_l_judged.nd rfl (Or.inl rfl) (pe_ix ix_tup (pv 0) pe_int (fun _ _ => rfl)))
      (pss_cons (ps_if (PW.pt (pw_or (pt_not (pt_val (pe_callB call_isi (by rfl) T.b_isinstance (by decide +kernel) (pa_cons (pv 2) (pa_cons (pe_bltn (v := .ty "tuple") (by rfl) T.b_tuple (by decide +kernel) rfl) pa_nil))))) (pw_or (pt_not (pt_val (pe_cd D_l_is_many (hr.mono (by decide)) (by rfl) (pa_cons (pe_callB call_len_seq (by rfl) T.b_len (by decide +kernel) (pa_cons (pv 2) pa_nil)) pa_nil)))) (pw_or1 (pt_not (pt_val (pe_cd D_l_row_of (hr.mono (by decide)) (by rfl) (pa_cons (pv 2) (pa_cons (pe_callB call_len_seq (by rfl) T.b_len (by decide +kernel) (pa_cons (pv 2) pa_nil)) pa_nil))))))))) (pss_one (ps_ret pe_bl)) pss_nil)
      (pss_cons (ps_if (PW.pt (pw_or (pt_not (pt_val (pe_cd D_l_row_of (hr.mono (by decide)) (by rfl) (pa_cons (pv 1) (pa_cons pe_int pa_nil))))) (pw_or (pt_cmpR op_lt (pe_ix ix_tup (pv 1) pe_int (fun _ _ => rfl)) pe_int (nomark _)) (pw_or1 (pt_not (pt_chain op_le op_lt pe_int (pe_ix ix_tup (pv 1) pe_int (fun _ _ => rfl)) (pe_ix ix_tup (pv 1) pe_int (fun _ _ => rfl)))))))) (pss_one (ps_ret pe_bl)) pss_nil)
      (pss_cons (ps_if (pt_cmpR op_eq (pe_cd D_l_comes (hr.mono (by decide)) (by rfl) (pa_cons (pv 2) (pa_cons (pe_ix ix_tup (pv 1) pe_int (fun _ _ => rfl)) (pa_cons (pe_ix ix_tup (pv 1) pe_int (fun _ _ => rfl)) pa_nil)))) pe_int (nomark _)) (pss_one (ps_ret pe_bl)) pss_nil)
      (pss_one (ps_ret (pe_cd D_l_is_root (hr.mono (by decide)) (by rfl) (pa_cons (pe_ix ix_tup (pv 1) pe_int (fun _ _ => rfl)) (pa_cons (pe_callB call_len_seq (by rfl) T.b_len (by decide +kernel) (pa_cons (pv 2) pa_nil)) (pa_cons (pe_ix ix_tup (pv 1) pe_int (fun _ _ => rfl)) pa_nil))))))))))), fn_body 1 rfl so rr q ?_⟩
            try dsimp only [cxOf, Cx.nox, Cx.wish]
            array_get_dec
            exact rr_dat k1
      · have k1 : Φ (.bl false) S := by
          match ds, hl, k with
          | [], _, k => exact k
          | [x], _, k => exact (by cases x <;> exact k)
          | [_, _], e, _ => exact absurd rfl e
          | x :: _ :: _ :: _, _, k => exact (by cases x <;> exact k)
        refine ⟨_, PSs.nox (pss_cons (ps_if (PW.pt (pw_or (pt_not (pt_val (pe_callB call_isi (by rfl) T.b_isinstance (by decide +kernel) (pa_cons (pv 0) (pa_cons (pe_bltn (v := .ty "tuple") (by rfl) T.b_tuple (by decide +kernel) rfl) pa_nil))))) (pw_or (pt_cmpR op_ne (pe_callB call_len_seq (by rfl) T.b_len (by decide +kernel) (pa_cons (pv 0) pa_nil)) pe_int (nomark _)) (pw_or (pt_not (pt_val (pe_callB call_isi (by rfl) T.b_isinstance (by decide +kernel) (pa_cons (pe_ix ix_tup (pv 0) pe_int (fun _ _ => rfl)) (pa_cons (pe_bltn (v := .ty "str") (by rfl) T.b_str (by decide +kernel) rfl) pa_nil))))) (pw_or1 (pt_cmpR op_ne (pe_ix ix_tup (pv 0) pe_int (fun _ _ => rfl)) pe_str (nomark _))))))) (pss_one (ps_ret pe_bl)) pss_nil)
      (pss_cons (ps_set (i := 2) sc_l_judged.nd rfl (Or.inl rfl) (pe_ix ix_tup (pv 0) pe_int (fun _ _ => rfl)))
      (pss_cons (ps_if (PW.pt (pw_or (pt_not (pt_val (pe_callB call_isi (by rfl) T.b_isinstance (by decide +kernel) (pa_cons (pv 2) (pa_cons (pe_bltn (v := .ty "tuple") (by rfl) T.b_tuple (by decide +kernel) rfl) pa_nil))))) (pw_or (pt_not (pt_val (pe_cd D_l_is_many (hr.mono (by decide)) (by rfl) (pa_cons (pe_callB call_len_seq (by rfl) T.b_len (by decide +kernel) (pa_cons (pv 2) pa_nil)) pa_nil)))) (pw_or1 (pt_not (pt_val (pe_cd D_l_row_of (hr.mono (by decide)) (by rfl) (pa_cons (pv 2) (pa_cons (pe_callB call_len_seq (by rfl) T.b_len (by decide +kernel) (pa_cons (pv 2) pa_nil)) pa_nil))))))))) (pss_one (ps_ret pe_bl)) pss_nil)
      (pss_cons (ps_if (PW.pt (pw_or (pt_not (pt_val (pe_cd D_l_row_of (hr.mono (by decide)) (by rfl) (pa_cons (pv 1) (pa_cons pe_int pa_nil))))) (pw_or (pt_cmpR op_lt (pe_ix ix_tup (pv 1) pe_int (fun _ _ => rfl)) pe_int (nomark _)) (pw_or1 (pt_not (pt_chain op_le op_lt pe_int (pe_ix ix_tup (pv 1) pe_int (fun _ _ => rfl)) (pe_ix ix_tup (pv 1) pe_int (fun _ _ => rfl)))))))) (pss_one (ps_ret pe_bl)) pss_nil)
      (pss_cons (ps_if (pt_cmpR op_eq (pe_cd D_l_comes (hr.mono (by decide)) (by rfl) (pa_cons (pv 2) (pa_cons (pe_ix ix_tup (pv 1) pe_int (fun _ _ => rfl)) (pa_cons (pe_ix ix_tup (pv 1) pe_int (fun _ _ => rfl)) pa_nil)))) pe_int (nomark _)) (pss_one (ps_ret pe_bl)) pss_nil)
      (pss_one (ps_ret (pe_cd D_l_is_root (hr.mono (by decide)) (by rfl) (pa_cons (pe_ix ix_tup (pv 1) pe_int (fun _ _ => rfl)) (pa_cons (pe_callB call_len_seq (by rfl) T.b_len (by decide +kernel) (pa_cons (pv 2) pa_nil)) (pa_cons (pe_ix ix_tup (pv 1) pe_int (fun _ _ => rfl)) pa_nil))))))))))), fn_body 1 rfl so rr q ?_⟩
        try dsimp only [cxOf, Cx.nox, Cx.wish]
        array_get_dec
        all_goals first | exact rr_dat k1 | omega
    · have pl := Ck.pd_Pl hc
      unfold Ck.awayB at k
      rw [hi] at k
      refine ⟨_, PSs.nox (pss_cons (ps_if (PW.pt (pw_or (pt_not (pt_val (pe_callB call_isi (by rfl) T.b_isinstance (by decide +kernel) (pa_cons (pv 0) (pa_cons (pe_bltn (v := .ty "tuple") (by rfl) T.b_tuple (by decide +kernel) rfl) pa_nil))))) (pw_or (pt_cmpR op_ne (pe_callB call_len_seq (by rfl) T.b_len (by decide +kernel) (pa_cons (pv 0) pa_nil)) pe_int (nomark _)) (pw_or (pt_not (pt_val (pe_callB call_isi (by rfl) T.b_isinstance (by decide +kernel) (pa_cons (pe_ix ix_tup (pv 0) pe_int (fun _ _ => rfl)) (pa_cons (pe_bltn (v := .ty "str") (by rfl) T.b_str (by decide +kernel) rfl) pa_nil))))) (pw_or1 (pt_cmpR op_ne (pe_ix ix_tup (pv 0) pe_int (fun _ _ => rfl)) pe_str (nomark _))))))) (pss_one (ps_ret pe_bl)) pss_nil)
      (pss_cons (ps_set (i := 2) sc_l_judged.nd rfl (Or.inl rfl) (pe_ix ix_tup (pv 0) pe_int (fun _ _ => rfl)))
      (pss_cons (ps_if (PW.pt (pw_or (pt_not (pt_val (pe_callB call_isi (by rfl) T.b_isinstance (by decide +kernel) (pa_cons (pv 2) (pa_cons (pe_bltn (v := .ty "tuple") (by rfl) T.b_tuple (by decide +kernel) rfl) pa_nil))))) (pw_or (pt_not (pt_val (pe_cd D_l_is_many (hr.mono (by decide)) (by rfl) (pa_cons (pe_callB call_len_seq (by rfl) T.b_len (by decide +kernel) (pa_cons (pv 2) pa_nil)) pa_nil)))) (pw_or1 (pt_not (pt_val (pe_cd D_l_row_of (hr.mono (by decide)) (by rfl) (pa_cons (pv 2) (pa_cons (pe_callB call_len_seq (by rfl) T.b_len (by decide +kernel) (pa_cons (pv 2) pa_nil)) pa_nil))))))))) (pss_one (ps_ret pe_bl)) pss_nil)
      (pss_cons (ps_if (PW.pt (pw_or (pt_not (pt_val (pe_cd D_l_row_of (hr.mono (by decide)) (by rfl) (pa_cons (pv 1) (pa_cons pe_int pa_nil))))) (pw_or (pt_cmpR op_lt (pe_ix ix_tup (pv 1) pe_int (fun _ _ => rfl)) pe_int (nomark _)) (pw_or1 (pt_not (pt_chain op_le op_lt pe_int (pe_ix ix_tup (pv 1) pe_int (fun _ _ => rfl)) (pe_ix ix_tup (pv 1) pe_int (fun _ _ => rfl)))))))) (pss_one (ps_ret pe_bl)) pss_nil)
      (pss_cons (ps_if (pt_cmpR op_eq (pe_cd D_l_comes (hr.mono (by decide)) (by rfl) (pa_cons (pv 2) (pa_cons (pe_ix ix_tup (pv 1) pe_int (fun _ _ => rfl)) (pa_cons (pe_ix ix_tup (pv 1) pe_int (fun _ _ => rfl)) pa_nil)))) pe_int (nomark _)) (pss_one (ps_ret pe_bl)) pss_nil)
      (pss_one (ps_ret (pe_cd D_l_is_root (hr.mono (by decide)) (by rfl) (pa_cons (pe_ix ix_tup (pv 1) pe_int (fun _ _ => rfl)) (pa_cons (pe_callB call_len_seq (by rfl) T.b_len (by decide +kernel) (pa_cons (pv 2) pa_nil)) (pa_cons (pe_ix ix_tup (pv 1) pe_int (fun _ _ => rfl)) pa_nil))))))))))), fn_body 1 rfl so rr q ?_⟩
      try dsimp only [cxOf, Cx.nox, Cx.wish]
      array_get_dec
      · exact rr_dat k
      all_goals (rename_i hb; rw [hn2] at hb; cases hb)
end
end K34

namespace K34
open PySem PySem.Spec PyProof.Rows L2 Evl Dl
theorem pd_ints : ∀ ns : List Int, Ck.pdL (ns.map .int) = true
  | [] => by rw [List.map_nil, Ck.pdL]
  | n :: ns => by rw [List.map_cons, Ck.pdL, Ck.pd, pd_ints ns]; rfl
theorem pdL_app (a b : List D) : Ck.pdL (a ++ b) = (Ck.pdL a && Ck.pdL b) := by
  induction a with
  | nil => rw [List.nil_append, Ck.pdL, Bool.true_and]
  | cons d ds ih => rw [List.cons_append, Ck.pdL, Ck.pdL, ih, Bool.and_assoc]
theorem pdL_sub {a b : List D} (h : Ck.pdL b = true) (s : ∀ d ∈ a, d ∈ b) : Ck.pdL a = true := Ck.pdL_all.mpr fun d hd => Ck.pdL_all.mp h d (s d hd)
theorem mem_cut {ds : List D} {lo hi : Option Int} {d : D} (h : d ∈ Dl.cutD ds lo hi) : d ∈ ds := by
  unfold Dl.cutD at h
  exact List.mem_of_mem_drop (List.mem_of_mem_take h)
theorem cut_le (ds : List D) (lo hi : Option Int) : (Dl.cutD ds lo hi).length ≤ ds.length := by
  unfold Dl.cutD
  rw [List.length_take, List.length_drop]
  omega
theorem pdL_take {ds : List D} (n : Nat) (h : Ck.pdL ds = true) : Ck.pdL (ds.take n) = true := pdL_sub h fun _ hd => List.mem_of_mem_take hd
theorem pdL_drop {ds : List D} (n : Nat) (h : Ck.pdL ds = true) : Ck.pdL (ds.drop n) = true := pdL_sub h fun _ hd => List.mem_of_mem_drop hd
theorem pdL_cut {ds : List D} {lo hi : Option Int} (h : Ck.pdL ds = true) : Ck.pdL (Dl.cutD ds lo hi) = true := pdL_sub h fun _ hd => mem_cut hd
/-- a thing whose numbers are among these, or 1 -/
def Mem (ns : List Int) (e : D) : Prop := ∀ ds, Ck.items e = some ds → ds.length ≤ 600 ∧ ∀ i, D.int i ∈ ds → i ∈ ns ∨ i = 1
theorem mem_no {ns : List Int} {e : D} (h : Ck.items e = none) : Mem ns e := fun ds z => by rw [h] at z; cases z
theorem mem_t {ns : List Int} {es : List D} (h : es.length ≤ 600) (k : ∀ i, D.int i ∈ es → i ∈ ns ∨ i = 1) : Mem ns (.tup es) := fun ds z => by
  injection z with z
  subst z
  exact ⟨h, k⟩
theorem mem_ints {ns : List Int} {i : Int} (h : D.int i ∈ ns.map D.int) : i ∈ ns := by
  obtain ⟨j, hj, e⟩ := List.mem_map.mp h
  injection e with e
  exact e ▸ hj
def sd_odd_rows : Sd := fun rs S Φ => ∃ (d : D) (ns : List Int) (k : Nat), rs = [.dat d, .mu k] ∧ (d = .tup (ns.map .int) ∨ d = .ftup (ns.map .int)) ∧ ns.length ≤ 500 ∧ Has k S ∧ ∀ (es : List D) (S1 : Store), Pk k S S1 → es.length ≤ 20 → Ck.pdL es = true → (∀ e ∈ es, Mem ns e) → Φ (.lst es) S1
theorem odd_rows_go {d : D} {ns : List Int} {k : Nat} {S : Store} {Φ : D → Store → Prop} (hd : d = .tup (ns.map .int) ∨ d = .ftup (ns.map .int)) (hl : ns.length ≤ 500) (hp : Has k S) (q : ∀ (es : List D) (S1 : Store), Pk k S S1 → es.length ≤ 20 → Ck.pdL es = true → (∀ e ∈ es, Mem ns e) → Φ (.lst es) S1) : sd_odd_rows [.dat d, .mu k] S Φ := ⟨d, ns, k, rfl, hd, hl, hp, q⟩
section
variable {P : Program} {w : World} {K : PySem.W.Frag} {mg : Str → Option Value} {base : Heap} {f : Addr} {fd : FuncData}
theorem ok_l_odd_rows (F : FnP K "_law_odd_rows" s_l_odd_rows f fd) (T : Txt K mg) (D_l_take : Dn P w K mg base 1 "_law_take" ["_law_pool_here", "_law_many_here"] (lift K sd_take)) (D_l_at : Dn P w K mg base 1 "_law_at" ["_law_row", "_law_at_here", "_law_thing"] (lift K sd_lat)) : FnOk P w K mg base CX0 2 f fd ["_law_row", "_law_pool_here"] (lift K sd_odd_rows) := by
  refine F.ok sc_l_odd_rows (fun vs H Q E h => ?_) (fun cdv A outer s H vs Q E hr h => ?_)
  · obtain ⟨A, S, rs, Φ, so, rr, h, _⟩ := h
    obtain ⟨d, ns, k, rfl, ht, hl, hp, q1⟩ := h
    exact (Paired.length rr).symm
  · obtain ⟨A, S, rs, Φ, so, rr, h, q⟩ := h
    obtain ⟨d, ns, k, rfl, ht, hl, hp, q1⟩ := h
    replace rr := plain1 ht rr
    have pi := pd_ints ns
    have ln : (ns.map D.int).length = ns.length := List.length_map _
    have pf : Ck.pdL [.lst (ns.map .int), .non, .str "", .dic [], .int 7, .bl true, .tup [.tup (ns.map .int)], .tup (ns.map .int ++ [.non]), .tup (ns.map .int ++ [.lst []]), .tup (Dl.cutD (ns.map .int) (some 1) none)] = true := by
      simp [Ck.pdL, Ck.pd, Ck.pdK, pdL_app, pi, pdL_cut pi]
    have mf : ∀ e ∈ [D.lst (ns.map .int), .non, .str "", .dic [], .int 7, .bl true, .tup [.tup (ns.map .int)], .tup (ns.map .int ++ [.non]), .tup (ns.map .int ++ [.lst []]), .tup (Dl.cutD (ns.map .int) (some 1) none)], Mem ns e := by
      intro e he
      simp only [List.mem_cons, List.not_mem_nil, or_false] at he
      rcases he with rfl | rfl | rfl | rfl | rfl | rfl | rfl | rfl | rfl | rfl
      · exact mem_no rfl
      · exact mem_no rfl
      · exact mem_no rfl
      · exact mem_no rfl
      · exact mem_no rfl
      · exact mem_no rfl
      · exact mem_t (by simp) fun i hi => by simp at hi
      · exact mem_t (by simp; omega) fun i hi => .inl (by simpa using hi)
      · exact mem_t (by simp; omega) fun i hi => .inl (by simpa using hi)
      · exact mem_t (by have := cut_le (ns.map D.int) (some 1) none; omega) fun i hi => .inl (mem_ints (mem_cut hi))
    refine ⟨_, PSs.nox (pss_cons (ps_set (i := 2) sc_l_odd_rows.nd rfl (Or.inl rfl) (pe_lst (pa_cons (pe_callTy call_list_of (by rfl) T.b_list (by decide +kernel) (pa_cons (pv 0) pa_nil)) (pa_cons pe_non (pa_cons pe_str (pa_cons pe_dnewK (pa_cons pe_int (pa_cons pe_bl (pa_cons (pe_tup (pa_cons (pv 0) pa_nil)) (pa_cons (pe_op op_catA (pv 0) (pe_tup (pa_cons pe_non pa_nil))) (pa_cons (pe_op op_catA (pv 0) (pe_tup (pa_cons (pe_lst pa_nil) pa_nil))) (pa_cons (pe_slice sl_tupA (pv 0) (po_some pe_int) po_none) pa_nil))))))))))))
      (pss_cons (ps_if (pt_cmpR (op_eqD hr.units) (pv 0) (pe_tup pa_nil) (nomark _)) (pss_one (ps_ret (pe_op op_cat (pv 2) (pe_lst (pa_cons (pe_tup (pa_cons (pe_tup pa_nil) pa_nil)) (pa_cons (pe_tup (pa_cons pe_int pa_nil)) pa_nil)))))) pss_nil)
      (pss_cons (ps_set (i := 3) sc_l_odd_rows.nd rfl (Or.inr rfl) (pe_cd D_l_take (hr.mono (by decide)) (by rfl) (pa_cons (pv 1) (pa_cons (pe_callB call_len_seq (by rfl) T.b_len (by decide +kernel) (pa_cons (pv 0) pa_nil)) pa_nil))))
      (pss_cons (ps_set (i := 4) sc_l_odd_rows.nd rfl (Or.inl rfl) (pe_lst (pa_cons pe_bl (pa_cons pe_bl (pa_cons pe_non (pa_cons pe_str (pa_cons (pe_lst pa_nil) (pa_cons (pe_lst (pa_cons (pe_ix ix_tup (pv 0) (pv 3) (fun _ _ => rfl)) pa_nil)) (pa_cons (pe_tup (pa_cons (pe_ix ix_tup (pv 0) (pv 3) (fun _ _ => rfl)) pa_nil)) (pa_cons pe_dnewK pa_nil))))))))))
      (pss_one (ps_ret (pe_op op_cat (pv 2) (pe_lc (own := [("_law_thing", 5)]) (g := (gName 5)) (tt := tYes) rfl sc_l_odd_rows.nd (pi_list (pv 4)) (blkOk_by (own := [("_law_thing", 5)]) (N := ["_law_row", "_law_pool_here", "_law_found", "_law_at_here", "_law_things", "_law_thing"]) (sc := defScope s_l_odd_rows) (by decide +kernel)) (fun _ _ _ _ _ => (pg_name (i := 5) sc_l_odd_rows.nd rfl (Or.inl rfl))) (fun _ _ _ _ _ => pts_nil) (fun _ _ _ _ _ => (pe_cd D_l_at (hr.mono (by decide)) (by rfl) (pa_cons (pv 0) (pa_cons (pv 3) (pa_cons (pv 5) pa_nil))))))))))))), fn_body 4 rfl so rr q ?_⟩
    try dsimp only [cxOf, Cx.nox, Cx.wish]
    array_get_dec
    · rw [ln, List.length_singleton]
      omega
    · rw [ln, List.length_singleton]
      omega
    · refine o_eqT (ms := []) tp_t tp_t ?_
      array_get_dec
      · exact Nat.le_of_ble_eq_true rfl
      · refine rr_dat (q1 _ S hp.refl (by show 12 ≤ 20; decide) ?_ ?_)
        · rw [pdL_app, pf]
          simp [Ck.pdL, Ck.pd]
        · intro e he
          rcases List.mem_append.mp he with h | h
          · exact mf e h
          · simp only [List.mem_cons, List.not_mem_nil, or_false] at h
            rcases h with rfl | rfl
            · exact mem_t (by simp) fun i hi => by simp at hi
            · exact mem_t (by simp) fun i hi => .inr (by simpa using hi)
      · rename_i hne
        have l0 : 0 < ns.length := List.length_pos_iff.mpr hne
        rw [ln]
        refine take_go hp (by omega) (by omega) fun a S1 a0 a1 p1 => ?_
        obtain ⟨i, rfl⟩ := Int.eq_ofNat_of_zero_le a0
        have hi : i < ns.length := by omega
        have ei : atI (ns.map D.int) (i : Int) = some (.int ns[i]) := at_nat (by rw [List.getElem?_map, List.getElem?_eq_getElem hi]; rfl)
        array_get_dec
        refine o_ixT ei ?_
        array_get_dec
        refine o_ixT ei ?_
        array_get_dec
        refine wp_lcM ?_
        array_get_dec
        refine ⟨[D.bl true, .bl false, .non, .str "1", .lst [], .lst [.int ns[i]], .tup [.int ns[i]], .dic []].map fun t => .tup ((ns.map .int).take i ++ [t] ++ (ns.map .int).drop (i + 1)), rfl, by show 8 < 100000; decide, fun j d e S0 hd he => gc_name (by decide) fun Φ k => ?_, ?_⟩
        · rw [List.getElem?_map, hd] at he
          cases he
          array_get_dec
          exact lat_go (.inl rfl) (by rw [ln]; exact hi) (by rw [ln]; omega) k
        · array_get_dec
          · show 10 + 8 ≤ 100000
            decide
          · refine rr_len p1.len (q1 _ S1 p1 (by show 18 ≤ 20; decide) ?_ ?_)
            · rw [pdL_app, pf]
              simp [Ck.pdL, Ck.pd, Ck.pdK, pdL_app, pdL_take i pi, pdL_drop (i + 1) pi]
            · intro e he
              rcases List.mem_append.mp he with h | h
              · exact mf e h
              · obtain ⟨t, ht, rfl⟩ := List.mem_map.mp h
                have tn : ∀ j, t ≠ .int j := fun j z => by
                  subst z
                  simp at ht
                refine mem_t (by simp; omega) fun j hj => .inl ?_
                rcases List.mem_append.mp hj with hj | hj
                · rcases List.mem_append.mp hj with hj | hj
                  · exact mem_ints (List.mem_of_mem_take hj)
                  · exact absurd (List.mem_singleton.mp hj).symm (tn j)
                · exact mem_ints (List.mem_of_mem_drop hj)
end
end K34

namespace K34
open PySem PySem.Spec PyProof.Rows L2 Evl Dl
def sd_llengths : Sd := fun rs S Φ => ∃ (k n : Nat), rs = [.mu k, .dat (.int (n : Nat))] ∧ Has k S ∧ Ck.isMany (n : Nat) = true ∧ ∀ (ns : List Int) (d : D) (S1 : Store), Pk k S S1 → ns.length = n → (∀ l ∈ ns, l.natAbs < 2 ^ 300) → (d = .tup (ns.map .int) ∨ d = .ftup (ns.map .int)) → Φ d S1
theorem put_bnd {n : Nat} (es : List D) : (∀ r ∈ es, RingD (n : Nat) r) → ∀ {B : Nat} {ls : List Int}, ls.length = n → (∀ l ∈ ls, l.natAbs ≤ B) → ∀ l ∈ Ck.putAll ls (es.map Ck.ringOf), l.natAbs ≤ B + es.length * (7 * 2 ^ 100) := by
  induction es with
  | nil => intro _ B ls _ h l hl; have := h l hl; simp; omega
  | cons r es ih =>
    intro h B ls hl hb l hx
    obtain ⟨a, b, c, rfl, hr, hc⟩ := h r (by simp)
    obtain ⟨a', b', c', _, er, h2, hm, a0, a1, _⟩ := ring_is hr
    cases er
    have h1 := Ck.putR_bnd (t := c) hl h2 hm a0 a1 hb (Nat.le_of_lt hc)
    have := ih (fun r hr => h r (by simp [hr])) (ls := Ck.putR ls (a, b, c)) (by rw [Ck.putR_len, hl]) h1 l hx
    rw [List.length_cons, Nat.succ_mul]
    omega
section
variable {P : Program} {w : World} {K : PySem.W.Frag} {mg : Str → Option Value} {base : Heap} {f : Addr} {fd : FuncData}
theorem ok_l_lengths (F : FnP K "_law_lengths" s_l_lengths f fd) (T : Txt K mg) (D_l_take : Dn P w K mg base 1 "_law_take" ["_law_pool_here", "_law_many_here"] (lift K sd_take)) (D_l_put : Dn P w K mg base 1 "_law_put" ["_law_lengths_here", "_law_rings_here"] (liftM K sd_lput)) (D_l_rings : Dn P w K mg base 2 "_law_rings" ["_law_pool_here", "_law_many_here", "_law_most"] (lift K sd_lrings)) : FnOk P w K mg base CX0 3 f fd ["_law_pool_here", "_law_many_here"] (lift K sd_llengths) := by
  refine F.ok sc_l_lengths (fun vs H Q E h => ?_) (fun cdv A outer s H vs Q E hr h => ?_)
  · obtain ⟨A, S, rs, Φ, so, rr, h, _⟩ := h
    obtain ⟨k, n, rfl, hp, hn, q1⟩ := h
    exact (Paired.length rr).symm
  · obtain ⟨A, S, rs, Φ, so, rr, h, q⟩ := h
    obtain ⟨k, n, rfl, hp, hn, q1⟩ := h
    refine ⟨_, PSs.nox (pss_cons (ps_set (i := 2) sc_l_lengths.nd rfl (Or.inl rfl) (pe_cd D_l_take (hr.mono (by decide)) (by rfl) (pa_cons (pv 0) (pa_cons pe_int pa_nil))))
      (pss_cons (ps_if (pt_cmpR op_eq (pv 2) pe_int (nomark _)) (pss_one (ps_ret (pe_callTy call_tuple_of (by rfl) T.b_tuple (by decide +kernel) (pa_cons (pe_lc (own := [("_law_k", 3)]) (g := (gName 3)) (tt := tYes) rfl sc_l_lengths.nd (pi_range1 (by rfl) T.b_range (pa_cons (pv 1) pa_nil)) (blkOk_by (own := [("_law_k", 3)]) (N := ["_law_pool_here", "_law_many_here", "_law_way", "_law_k", "_law_found", "_law_at_here"]) (sc := defScope s_l_lengths) (by decide +kernel)) (fun _ _ _ _ _ => (pg_name (i := 3) sc_l_lengths.nd rfl (Or.inl rfl))) (fun _ _ _ _ _ => pts_nil) (fun _ _ _ _ _ => (pe_op op_sub (pe_cd D_l_take (hr.mono (by decide)) (by rfl) (pa_cons (pv 0) (pa_cons pe_int pa_nil))) pe_int))) pa_nil)))) pss_nil)
      (pss_cons (ps_if (pt_cmpR op_eq (pv 2) pe_int (nomark _)) (pss_one (ps_ret (pe_callTy call_tuple_of (by rfl) T.b_tuple (by decide +kernel) (pa_cons (pe_lc (own := [("_law_k", 3)]) (g := (gName 3)) (tt := tYes) rfl sc_l_lengths.nd (pi_range1 (by rfl) T.b_range (pa_cons (pv 1) pa_nil)) (blkOk_by (own := [("_law_k", 3)]) (N := ["_law_pool_here", "_law_many_here", "_law_way", "_law_k", "_law_found", "_law_at_here"]) (sc := defScope s_l_lengths) (by decide +kernel)) (fun _ _ _ _ _ => (pg_name (i := 3) sc_l_lengths.nd rfl (Or.inl rfl))) (fun _ _ _ _ _ => pts_nil) (fun _ _ _ _ _ => (pe_op op_mulW (pe_op op_mulW (pe_cd D_l_take (hr.mono (by decide)) (by rfl) (pa_cons (pv 0) (pa_cons (pe_op op_pow pe_int pe_int) pa_nil))) (pe_op op_pow pe_int pe_int)) (pe_ix (r := rIxL K) ix_list (pe_lst (pa_cons pe_int (pa_cons (pe_un un_neg pe_int) pa_nil))) (pe_cd D_l_take (hr.mono (by decide)) (by rfl) (pa_cons (pv 0) (pa_cons pe_int pa_nil))) (fun _ _ => rfl))))) pa_nil)))) pss_nil)
      (pss_cons (ps_set (i := 4) sc_l_lengths.nd rfl (Or.inl rfl) (pe_cd D_l_put (hr.mono (by decide)) (by rfl) (pa_cons (pe_op op_rep (pe_lst (pa_cons pe_int pa_nil)) (pv 1)) (pa_cons (pe_cd D_l_rings (hr.mono (by decide)) (by rfl) (pa_cons (pv 0) (pa_cons (pv 1) (pa_cons pe_int pa_nil)))) pa_nil))))
      (pss_cons (ps_if (pt_cmpR op_eq (pv 2) pe_int (nomark _)) (pss_cons (ps_set (i := 5) sc_l_lengths.nd rfl (Or.inl rfl) (pe_cd D_l_take (hr.mono (by decide)) (by rfl) (pa_cons (pv 0) (pa_cons (pv 1) pa_nil))))
        (pss_one (ps_asg (pe_op op_add (pe_ix ix_list (pv 4) (pv 5) (fun _ _ => rfl)) pe_int) (pg_sub (pv 4) (pv 5) set_list)))) pss_nil)
      (pss_one (ps_ret (pe_callTy call_tuple_of (by rfl) T.b_tuple (by decide +kernel) (pa_cons (pv 4) pa_nil))))))))), fn_body 4 rfl so rr q ?_⟩
    try dsimp only [cxOf, Cx.nox, Cx.wish]
    have hl := many_le hn
    array_get_dec
    refine take_go hp (by decide) (by decide) fun a S1 a0 a1 p1 => ?_
    have h1 := p1.has hp
    array_get_dec
    · refine wp_lc ?_
      array_get_dec
      refine rg1 (by omega) (by omega) ?_
      refine ⟨fun i acc S' => Pk k S S' ∧ ∃ ns : List Int, acc = ns.map .int ∧ ns.length = i ∧ ∀ l ∈ ns, l.natAbs < 2 ^ 300, ⟨p1, [], rfl, rfl, fun _ h => nomatch h⟩, ⟨fun i d acc S' hd hS ⟨p2, ns, e, le, hb⟩ => ?_⟩, fun acc S' hS ⟨p2, ns, e, le, hb⟩ => ?_⟩
      · have li := (List.getElem?_eq_some_iff.mp hd).1
        unfold rng0 at li
        rw [List.length_map, List.length_range] at li
        have h2 := p2.has hp
        refine ⟨by rw [e, List.length_map]; omega, gc_name (by decide) ?_⟩
        array_get_dec
        refine take_go h2.app (by decide) (by decide) fun x S3' x0 x1 p3' => ?_
        obtain ⟨S3, rfl, p3⟩ := p3'.app h2
        array_get_dec
        refine ⟨_, S3, rfl, rfl, by rw [p3.len, hS], p2.trans p3, ns ++ [x - 4], by rw [e, List.map_append]; rfl, by rw [List.length_append, le]; rfl, fun l hl => ?_⟩
        rcases List.mem_append.mp hl with h | h
        · exact hb l h
        · rw [List.mem_singleton.mp h]
          have : (x - 4).natAbs < 2 ^ 10 := by omega
          exact Nat.lt_of_lt_of_le this (Nat.pow_le_pow_right (by decide) (by decide))
      · array_get_dec
        unfold rng0 at le
        rw [List.length_map, List.length_range] at le
        exact rr_len p2.len (q1 ns _ S' p2 (by omega) hb (.inl (congrArg D.tup e)))
    · refine wp_lc ?_
      array_get_dec
      refine rg1 (by omega) (by omega) ?_
      refine ⟨fun i acc S' => Pk k S S' ∧ ∃ ns : List Int, acc = ns.map .int ∧ ns.length = i ∧ ∀ l ∈ ns, l.natAbs < 2 ^ 300, ⟨p1, [], rfl, rfl, fun _ h => nomatch h⟩, ⟨fun i d acc S' hd hS ⟨p2, ns, e, le, hb⟩ => ?_⟩, fun acc S' hS ⟨p2, ns, e, le, hb⟩ => ?_⟩
      · have li := (List.getElem?_eq_some_iff.mp hd).1
        unfold rng0 at li
        rw [List.length_map, List.length_range] at li
        have h2 := p2.has hp
        refine ⟨by rw [e, List.length_map]; omega, gc_name (by decide) ?_⟩
        have h23 : ((10 : Int) ^ (23 : Int).toNat).natAbs < 2 ^ 400 := Nat.lt_of_lt_of_le (show ((10 : Int) ^ (23 : Int).toNat).natAbs < 2 ^ 100 by decide) (Nat.pow_le_pow_right (by decide) (by decide))
        array_get_dec
        refine take_go h2.app (by decide) (by decide) fun x S3' x0 x1 p3' => ?_
        obtain ⟨S3, rfl, p3⟩ := p3'.app h2
        have h3 := p3.has h2
        have xb : x.natAbs < 2 ^ 20 := by
          have : x < 1000000 := x1
          omega
        have xb4 : x.natAbs < 2 ^ 400 := Nat.lt_of_lt_of_le xb (Nat.pow_le_pow_right (by decide) (by decide))
        array_get_dec
        refine take_go h3.app (by decide) (by decide) fun j S4' j0 j1 p4' => ?_
        obtain ⟨S4, rfl, p4⟩ := p4'.app h3
        obtain ⟨v, hv, ev⟩ := at_ints (L := [1, -1]) j0 (by show j < 2; omega)
        refine o_ixL ev ?_
        have vb : v.natAbs ≤ 1 := by
          simp only [List.mem_cons, List.not_mem_nil, or_false] at hv
          omega
        have yb : (x * 10 ^ (23 : Int).toNat).natAbs < 2 ^ 120 := by
          rw [Int.natAbs_mul, show (120 : Nat) = 20 + 100 from rfl, Nat.pow_add]
          exact Nat.mul_lt_mul'' xb (by decide)
        have zb : (x * 10 ^ (23 : Int).toNat * v).natAbs < 2 ^ 120 := by
          rw [Int.natAbs_mul]
          exact Nat.lt_of_le_of_lt (Nat.mul_le_mul_left _ vb) (by rw [Nat.mul_one]; exact yb)
        refine o_mul 120 64 yb (by omega) (by decide) ?_
        refine ⟨_, S4, rfl, rfl, by rw [p4.len, p3.len, hS], (p2.trans p3).trans p4, ns ++ [x * 10 ^ (23 : Int).toNat * v], by rw [e, List.map_append]; rfl, by rw [List.length_append, le]; rfl, fun l hl => ?_⟩
        rcases List.mem_append.mp hl with h | h
        · exact hb l h
        · rw [List.mem_singleton.mp h]
          exact Nat.lt_of_lt_of_le zb (Nat.pow_le_pow_right (by decide) (by decide))
      · array_get_dec
        unfold rng0 at le
        rw [List.length_map, List.length_range] at le
        exact rr_len p2.len (q1 ns _ S' p2 (by omega) hb (.inl (congrArg D.tup e)))
    · refine o_rep ls_dat (by omega) (by simp; omega) ?_
      rw [Int.toNat_natCast, rep_zero]
      array_get_dec
      refine lrings_go h1 hn (by decide) fun es S2 p2 le hes => ?_
      array_get_dec
      refine ⟨_, List.replicate n 0, _, es, rfl, sq_l, by rw [List.length_replicate]; omega, .inl rfl, by omega, by rw [List.length_replicate]; exact List.all_eq_true.mpr fun r hr => by obtain ⟨_, _, _, _, h, _⟩ := hes r hr; exact h, ?_⟩
      have pb := put_bnd es hes (B := 0) (ls := List.replicate n 0) (List.length_replicate ..) (fun l hl => by rw [List.eq_of_mem_replicate hl]; decide)
      have pl : (Ck.putAll (List.replicate n 0) (es.map Ck.ringOf)).length = n := by rw [Ck.putAll_len, List.length_replicate]
      have pb2 : ∀ l ∈ Ck.putAll (List.replicate n 0) (es.map Ck.ringOf), l.natAbs < 2 ^ 110 := fun l hl => by
        have h1 := pb l hl
        have h2 : es.length * (7 * 2 ^ 100) ≤ 4 * (7 * 2 ^ 100) := Nat.mul_le_mul_right _ le
        have h3 : 0 + 4 * (7 * 2 ^ 100) < 2 ^ 110 := by decide
        omega
      generalize Ck.putAll (List.replicate n 0) (es.map Ck.ringOf) = ns at *
      have big : (2 : Nat) ^ 110 < 2 ^ 300 := Nat.pow_lt_pow_right (by decide) (by decide)
      array_get_dec
      · have h2 := p2.has h1
        refine take_go h2.app (by omega) (by omega) fun x S3' x0 x1 p3' => ?_
        obtain ⟨S3, rfl, p3⟩ := p3'.app h2
        obtain ⟨i, rfl⟩ := Int.eq_ofNat_of_zero_le x0
        have hi : i < ns.length := by omega
        have l3 : S3.length = S2.length := p3.len
        rw [← l3]
        array_get_dec
        refine o_ixM st_last (at_nat (d := .int ns[i]) (by rw [List.getElem?_map, List.getElem?_eq_getElem hi]; rfl)) ?_
        array_get_dec
        refine ⟨S3.length, _, i, _, rfl, rfl, rfl, st_last, by rw [List.length_map]; exact hi, ?_⟩
        rw [st_set]
        array_get_dec
        refine rr_cut (by rw [p3.len, p2.len, p1.len]) (q1 (ns.set i (ns[i] + 1)) _ S3 ((p1.trans p2).trans p3) (by rw [List.length_set]; exact pl) (fun l hl => ?_) (.inl (by rw [List.map_set])))
        rcases List.mem_or_eq_of_mem_set hl with h | h
        · exact Nat.lt_trans (pb2 l h) big
        · subst h
          have := pb2 ns[i] (List.getElem_mem hi)
          have b2 : (2 : Nat) ^ 110 + 1 < 2 ^ 111 := by decide
          have b3 : (2 : Nat) ^ 111 < 2 ^ 300 := Nat.pow_lt_pow_right (by decide) (by decide)
          omega
      · exact rr_cut (by rw [p2.len, p1.len]) (q1 ns _ S2 (p1.trans p2) pl (fun l hl => Nat.lt_trans (pb2 l hl) big) (.inl rfl))
end
end K34

namespace K34
open PySem PySem.Spec PyProof.Rows L2 Evl Dl
/-- a paper that is reckoned -/
def PaOk (p : D) : Prop := Ck.pd p = true ∧ few p ∧ Ck.lowM p
theorem pa_no {p : D} (h : Ck.pd p = true) (hn : Ck.items p = none) : PaOk p := ⟨h, fun ds e => (by rw [hn] at e; cases e), fun m b e => (by rw [hn] at e; cases e)⟩
theorem pa_two {a b : Int} (h : a < 4000000000000000000) : PaOk (.tup [.int a, .int b]) := ⟨by simp [Ck.pd, Ck.pdL], fun ds e => by cases e; show 2 < 100000; decide, fun m b e => by cases e; exact h⟩
theorem pa_mem {ns : List Int} {p : D} (h : Ck.pd p = true) (hm : Mem ns p) (hb : ∀ i ∈ ns, i < 4000000000000000000) : PaOk p := ⟨h, fun ds e => by have := (hm ds e).1; omega, fun m b e => by
  rcases (hm _ e).2 m (by simp) with z | z
  · exact hb m z
  · omega⟩
def papersL (m r : Int) : List D := ((((([D.tup [.int r, .int m], .tup [.int (m + 1), .int r], .tup [.int m, .int (r + m)], .tup [.int m, .int (r - m)]] ++ [D.tup [.int m, .int 0]]) ++ [D.tup [.int m, .int 1], .tup [.int m, .int (m - 1)], .tup [.int 0, .int 0], .tup [.int 1, .int 0], .tup [.int 2, .int 1], .tup [.int (-7), .int 1], .tup [.int m, .int (r + 1)]]) ++ [D.tup [.int 3, .int 2]]) ++ [D.tup [.int (0 - m), .int r], .tup [.int (0 - m), .int (0 - r)], .tup [.int (m * m), .int r]]) ++ [D.tup [.int m, .int r, .int 1], .tup [.tup [.int m, .int r]], .tup [.int m], .str "paper", .tup [.int m, .lst []]])
theorem papers_ok {m r : Int} (hm : 2 ≤ m ∧ m < 2000) (hr : 0 ≤ r ∧ r < m) : ∀ p ∈ papersL m r, PaOk p := by
  have hmm : m * m < 2000 * 2000 := by
    have h1 : m * m ≤ m * 2000 := Int.mul_le_mul_of_nonneg_left (by omega) (by omega)
    omega
  intro p hp
  unfold papersL at hp
  simp only [List.mem_append, List.mem_cons, List.not_mem_nil, or_false] at hp
  rcases hp with ((((h | h) | h) | h) | h) | h
  · rcases h with rfl | rfl | rfl | rfl <;> exact pa_two (by omega)
  · subst h; exact pa_two (by omega)
  · rcases h with rfl | rfl | rfl | rfl | rfl | rfl | rfl <;> exact pa_two (by omega)
  · subst h; exact pa_two (by omega)
  · rcases h with rfl | rfl | rfl <;> exact pa_two (by omega)
  · rcases h with rfl | rfl | rfl | rfl | rfl
    · exact ⟨by simp [Ck.pd, Ck.pdL], fun ds e => by cases e; show 3 < 100000; decide, fun m b e => by cases e⟩
    · exact ⟨by simp [Ck.pd, Ck.pdL], fun ds e => by cases e; show 1 < 100000; decide, fun m b e => by cases e⟩
    · exact ⟨by simp [Ck.pd, Ck.pdL], fun ds e => by cases e; show 1 < 100000; decide, fun m b e => by cases e⟩
    · exact pa_no rfl rfl
    · exact ⟨by simp [Ck.pd, Ck.pdL], fun ds e => by cases e; show 2 < 100000; decide, fun m b e => by cases e; omega⟩
theorem papers_len (m r : Int) : (papersL m r).length = 21 := rfl
def sd_lpapers : Sd := fun rs S Φ => ∃ (m r : Int) (k : Nat), rs = [.dat (.int m), .dat (.int r), .mu k] ∧ (2 ≤ m ∧ m < 2000) ∧ (0 ≤ r ∧ r < m) ∧ Has k S ∧ ∀ (ps : List D) (S1 : Store), Pk k S S1 → ps.length ≤ 100 → (∀ p ∈ ps, PaOk p) → Φ (.lst ps) S1
/-- a claim that is reckoned -/
def ClA (c : D) : Prop := Ck.pd c = true ∧ (∀ y, Ck.items c = some [.str "away", y] → Ck.small y) ∧ (∀ x y ds, Ck.items c = some (.str x :: y :: ds) → ds ≠ [] → x ≠ "least" ∧ x ≠ "fewest")
theorem cla_no {c : D} (h : Ck.pd c = true) (hn : Ck.items c = none) : ClA c := ⟨h, fun y e => (by rw [hn] at e; cases e), fun x y ds e => (by rw [hn] at e; cases e)⟩
theorem cla_two {x : Str} {y : D} (h : Ck.pd y = true) (hs : Ck.small y) : ClA (.tup [.str x, y]) := ⟨by simp [Ck.pd, Ck.pdL, h], fun z e => by cases e; exact hs, fun a b ds e hd => by cases e; exact absurd rfl hd⟩
theorem cla_oth {y : D} {ds : List D} (h : Ck.pdL (y :: ds) = true) (hn : y.isStr = false) : ClA (.tup (y :: ds)) := ⟨by rw [Ck.pd]; exact h, fun z e => (by cases e; cases hn), fun a b es e => (by cases e; cases hn)⟩
def sd_lclaims : Sd := fun rs S Φ => ∃ (d : D) (ns : List Int) (k : Nat), rs = [.dat d, .mu k] ∧ (d = .tup (ns.map .int) ∨ d = .ftup (ns.map .int)) ∧ ns.length ≤ 256 ∧ (∀ l ∈ ns, l.natAbs < 2 ^ 300) ∧ Has k S ∧ ∀ (cs : List D) (S1 : Store), Pk k S S1 → cs.length ≤ 100 → (∀ c ∈ cs, ClA c) → Φ (.lst cs) S1
theorem small_mem {ns : List Int} {e : D} (h : Mem ns e) (hb : ∀ l ∈ ns, l.natAbs < 2 ^ 300) : Ck.small e := by
  unfold Ck.small
  have big : (2 : Nat) ^ 300 < 2 ^ 400 := Nat.pow_lt_pow_right (by decide) (by decide)
  have one1 : 1 < (2 : Nat) ^ 400 := Nat.one_lt_two_pow (by decide)
  cases q : Ck.items e with
  | none => trivial
  | some ds =>
    intro i hi
    rcases (h ds q).2 i hi with z | z
    · exact Nat.lt_trans (hb i z) big
    · subst z
      exact one1
theorem small_ints {d : D} {ns : List Int} (h : Ck.items d = some (ns.map .int)) (hb : ∀ l ∈ ns, l.natAbs < 2 ^ 300) : Ck.small d := by
  unfold Ck.small
  rw [h]
  intro i hi
  exact Nat.lt_trans (hb i (mem_ints hi)) (Nat.pow_lt_pow_right (by decide) (by decide))
theorem small_ones (n : Nat) : ∀ l ∈ List.replicate n (1 : Int), l.natAbs < 2 ^ 300 := fun l hl => by
  rw [List.eq_of_mem_replicate hl]
  exact Nat.one_lt_two_pow (by decide)
theorem app4 (S : Store) (x y z u : MO) : S ++ [x] ++ [y] ++ [z] ++ [u] = S ++ [x, y, z, u] := by simp
section
variable {P : Program} {w : World} {K : PySem.W.Frag} {mg : Str → Option Value} {base : Heap} {f : Addr} {fd : FuncData}
theorem ok_l_papers (F : FnP K "_law_papers" s_l_papers f fd) (T : Txt K mg) (D_l_odd_rows : Dn P w K mg base 2 "_law_odd_rows" ["_law_row", "_law_pool_here"] (lift K sd_odd_rows)) : FnOk P w K mg base CX0 3 f fd ["_law_modulus_here", "_law_root_here", "_law_pool_here"] (lift K sd_lpapers) := by
  refine F.ok sc_l_papers (fun vs H Q E h => ?_) (fun cdv A outer s H vs Q E hr h => ?_)
  · obtain ⟨A, S, rs, Φ, so, rr, h, _⟩ := h
    obtain ⟨m, r, k, rfl, hm, hr0, hp, q1⟩ := h
    exact (Paired.length rr).symm
  · obtain ⟨A, S, rs, Φ, so, rr, h, q⟩ := h
    obtain ⟨m, r, k, rfl, hm, hr0, hp, q1⟩ := h
    refine ⟨_, PSs.nox (pss_cons (ps_setM (ps_set (i := 3) sc_l_papers.nd rfl (Or.inl rfl) (pe_lst (pa_cons (pe_tup (pa_cons (pv 1) (pa_cons (pv 0) pa_nil))) (pa_cons (pe_tup (pa_cons (pe_op op_add (pv 0) pe_int) (pa_cons (pv 1) pa_nil))) (pa_cons (pe_tup (pa_cons (pv 0) (pa_cons (pe_op op_add (pv 1) (pv 0)) pa_nil))) (pa_cons (pe_tup (pa_cons (pv 0) (pa_cons (pe_op op_sub (pv 1) (pv 0)) pa_nil))) pa_nil)))))))
      (pss_cons (ps_expr (pe_bm PySem.F.plainAttrs_list PySem.F.slot_list_append PySem.F.type_list_append mt_append (pv 3) (pa_cons (pe_tup (pa_cons (pv 0) (pa_cons pe_int pa_nil))) pa_nil)))
      (pss_cons (ps_setM (ps_set (i := 3) sc_l_papers.nd rfl (Or.inl rfl) (pe_op op_cat (pv 3) (pe_lst (pa_cons (pe_tup (pa_cons (pv 0) (pa_cons pe_int pa_nil))) (pa_cons (pe_tup (pa_cons (pv 0) (pa_cons (pe_op op_sub (pv 0) pe_int) pa_nil))) (pa_cons (pe_tup (pa_cons pe_int (pa_cons pe_int pa_nil))) (pa_cons (pe_tup (pa_cons pe_int (pa_cons pe_int pa_nil))) (pa_cons (pe_tup (pa_cons pe_int (pa_cons pe_int pa_nil))) (pa_cons (pe_tup (pa_cons (pe_un un_neg pe_int) (pa_cons pe_int pa_nil))) (pa_cons (pe_tup (pa_cons (pv 0) (pa_cons (pe_op op_add (pv 1) pe_int) pa_nil))) pa_nil)))))))))))
      (pss_cons (ps_expr (pe_bm PySem.F.plainAttrs_list PySem.F.slot_list_append PySem.F.type_list_append mt_append (pv 3) (pa_cons (pe_tup (pa_cons pe_int (pa_cons pe_int pa_nil))) pa_nil)))
      (pss_cons (ps_setM (ps_set (i := 3) sc_l_papers.nd rfl (Or.inl rfl) (pe_op op_cat (pv 3) (pe_lst (pa_cons (pe_tup (pa_cons (pe_op op_sub pe_int (pv 0)) (pa_cons (pv 1) pa_nil))) (pa_cons (pe_tup (pa_cons (pe_op op_sub pe_int (pv 0)) (pa_cons (pe_op op_sub pe_int (pv 1)) pa_nil))) (pa_cons (pe_tup (pa_cons (pe_op op_mulW (pv 0) (pv 0)) (pa_cons (pv 1) pa_nil))) pa_nil)))))))
      (pss_cons (ps_setM (ps_set (i := 3) sc_l_papers.nd rfl (Or.inl rfl) (pe_op op_cat (pv 3) (pe_lst (pa_cons (pe_tup (pa_cons (pv 0) (pa_cons (pv 1) (pa_cons pe_int pa_nil)))) (pa_cons (pe_tup (pa_cons (pe_tup (pa_cons (pv 0) (pa_cons (pv 1) pa_nil))) pa_nil)) (pa_cons (pe_tup (pa_cons (pv 0) pa_nil)) (pa_cons pe_str (pa_cons (pe_tup (pa_cons (pv 0) (pa_cons (pe_lst pa_nil) pa_nil))) pa_nil)))))))))
      (pss_one (ps_ret (pe_op op_cat (pv 3) (pe_cd D_l_odd_rows (hr.mono (by decide)) (by rfl) (pa_cons (pe_tup (pa_cons (pv 0) (pa_cons (pv 1) pa_nil))) (pa_cons (pv 2) pa_nil)))))))))))), fn_body 1 rfl so rr q ?_⟩
    try dsimp only [cxOf, Cx.nox, Cx.wish]
    have gp := papers_ok hm hr0
    have lp := papers_len m r
    array_get_dec
    refine appTo_last (by show 4 < 100000; decide) ?_
    array_get_dec
    refine ⟨_, _, ls_mu st_last, ls_dat, by show 5 + 7 ≤ 100000; decide, ?_⟩
    array_get_dec
    refine appTo_last (by show 12 < 100000; decide) ?_
    array_get_dec
    refine ⟨_, _, ls_mu st_last, ls_dat, by show 13 + 3 ≤ 100000; decide, ?_⟩
    array_get_dec
    refine ⟨_, _, ls_mu st_last, ls_dat, by show 16 + 5 ≤ 100000; decide, ?_⟩
    refine ws_frz (ds := papersL m r) 3 rfl (show _ = _ from st_last) ?_
    rw [st_set]
    generalize papersL m r = xs at *
    rw [app4]
    generalize [MO.ls _, MO.ls _, MO.ls _, MO.dead] = J
    show WpS K _ [_, _, _, _] _ _ _ _ _
    array_get_dec
    refine odd_rows_go (ns := [m, r]) (.inl rfl) (by show 2 ≤ 500; decide) hp.app fun os S1' p1' lo po mo => ?_
    obtain ⟨S1, rfl, p1⟩ := p1'.app hp
    have poa := Ck.pdL_all.mp po
    refine o_cat ls_dat ls_dat (by omega) ?_
    refine rr_cut p1.len (q1 _ S1 p1 (by rw [List.length_append]; omega) fun p h => ?_)
    rcases List.mem_append.mp h with h | h
    · exact gp p h
    · exact pa_mem (poa p h) (mo p h) fun i hi => by
        simp only [List.mem_cons, List.not_mem_nil, or_false] at hi
        omega
theorem ok_l_claims (F : FnP K "_law_claims" s_l_claims f fd) (T : Txt K mg) (D_l_odd_rows : Dn P w K mg base 2 "_law_odd_rows" ["_law_row", "_law_pool_here"] (lift K sd_odd_rows)) : FnOk P w K mg base CX0 3 f fd ["_law_lengths_here", "_law_pool_here"] (lift K sd_lclaims) := by
  refine F.ok sc_l_claims (fun vs H Q E h => ?_) (fun cdv A outer s H vs Q E hr h => ?_)
  · obtain ⟨A, S, rs, Φ, so, rr, h, _⟩ := h
    obtain ⟨d, ns, k, rfl, hd, hl, hb, hp, q1⟩ := h
    exact (Paired.length rr).symm
  · obtain ⟨A, S, rs, Φ, so, rr, h, q⟩ := h
    obtain ⟨d, ns, k, rfl, hd, hl, hb, hp, q1⟩ := h
    refine ⟨_, PSs.nox (pss_cons (ps_setLc (i := 2) (own := [("_law_some", 3)]) (g := (gName 3)) (tt := tYes) rfl sc_l_claims.nd rfl rfl (sw_true rfl rfl rfl rfl) (pi_list (pe_cd D_l_odd_rows (hr.mono (by decide)) (by rfl) (pa_cons (pv 0) (pa_cons (pv 1) pa_nil)))) (blkOk_by (own := [("_law_some", 3)]) (N := ["_law_lengths_here", "_law_pool_here", "_law_found", "_law_some", "_law_many_here"]) (sc := defScope s_l_claims) (by decide +kernel)) (fun _ _ _ _ _ => (pg_name (i := 3) sc_l_claims.nd rfl (Or.inl rfl))) (fun _ _ _ _ _ => pts_nil) (fun _ _ _ _ _ => (pe_tup (pa_cons pe_str (pa_cons (pv 3) pa_nil)))))
      (pss_cons (ps_set (i := 2) sc_l_claims.nd rfl (Or.inl rfl) (pe_op op_cat (pv 2) (pe_lst (pa_cons (pe_tup (pa_cons pe_str (pa_cons (pv 0) pa_nil))) (pa_cons (pe_tup (pa_cons pe_str (pa_cons (pv 0) pa_nil))) (pa_cons (pe_tup (pa_cons pe_str (pa_cons (pv 0) pa_nil))) (pa_cons (pe_tup (pa_cons pe_str pa_nil)) (pa_cons (pe_tup (pa_cons pe_str (pa_cons (pv 0) (pa_cons pe_int pa_nil)))) pa_nil))))))))
      (pss_cons (ps_set (i := 2) sc_l_claims.nd rfl (Or.inl rfl) (pe_op op_cat (pv 2) (pe_lst (pa_cons (pe_lst (pa_cons pe_str (pa_cons (pv 0) pa_nil))) (pa_cons (pe_tup (pa_cons (pe_lst (pa_cons pe_str pa_nil)) (pa_cons (pv 0) pa_nil))) (pa_cons (pe_tup (pa_cons pe_non (pa_cons (pv 0) pa_nil))) (pa_cons (pe_tup pa_nil) (pa_cons pe_non (pa_cons pe_dnewK (pa_cons (pe_tup (pa_cons (pv 0) (pa_cons pe_str pa_nil))) pa_nil))))))))))
      (pss_one (ps_ret (pe_op op_cat (pv 2) (pe_lc (own := [("_law_many_here", 4)]) (g := (gName 4)) (tt := tYes) rfl sc_l_claims.nd (pi_list (pe_lst (pa_cons pe_int (pa_cons pe_int (pa_cons pe_int (pa_cons pe_int (pa_cons pe_int (pa_cons pe_int (pa_cons pe_int (pa_cons pe_int (pa_cons pe_int pa_nil))))))))))) (blkOk_by (own := [("_law_many_here", 4)]) (N := ["_law_lengths_here", "_law_pool_here", "_law_found", "_law_some", "_law_many_here"]) (sc := defScope s_l_claims) (by decide +kernel)) (fun _ _ _ _ _ => (pg_name (i := 4) sc_l_claims.nd rfl (Or.inl rfl))) (fun _ _ _ _ _ => pts_nil) (fun _ _ _ _ _ => (pe_tup (pa_cons pe_str (pa_cons (pe_op (r := rRepA K) op_repA (pe_tup (pa_cons pe_int pa_nil)) (pv 4)) pa_nil))))))))))), fn_body 3 rfl so rr q ?_⟩
    try dsimp only [cxOf, Cx.nox, Cx.wish]
    have pdd : Ck.pd d = true := by
      rcases hd with rfl | rfl <;> (rw [Ck.pd]; exact pd_ints ns)
    have it : Ck.items d = some (ns.map .int) := by
      rcases hd with rfl | rfl <;> rfl
    have sd := small_ints it hb
    have hns : d.isStr = false := by
      rcases hd with rfl | rfl <;> rfl
    array_get_dec
    refine wp_lcM ?_
    array_get_dec
    refine odd_rows_go hd (by omega) hp fun os S2 p2 lo po mo => ?_
    have poa := Ck.pdL_all.mp po
    array_get_dec
    refine ⟨os.map fun t => .tup [.str "away", t], by simp, by omega, fun j d e S0 hd he => gc_name (by decide) fun Φ k => ?_, ?_⟩
    · rw [List.getElem?_map, hd] at he
      cases he
      array_get_dec
      exact k
    have g1 : ∀ c ∈ os.map (fun t => D.tup [.str "away", t]), ClA c := fun c hc => by
      obtain ⟨t, ht, rfl⟩ := List.mem_map.mp hc
      exact cla_two (poa t ht) (small_mem (mo t ht) hb)
    have l1 : (os.map fun t => D.tup [.str "away", t]).length ≤ 20 := by rw [List.length_map]; exact lo
    generalize os.map (fun t => D.tup [.str "away", t]) = F1 at *
    array_get_dec
    · show F1.length + 5 ≤ 100000
      omega
    · rw [List.length_append]
      show F1.length + 5 + 7 ≤ 100000
      omega
    have g2 : ∀ c ∈ (F1 ++ [D.tup [.str "Away", d], .tup [.str "home", d], .tup [.str "least", d], .tup [.str "away"], .tup [.str "away", d, .int 1]]) ++ [D.lst [.str "away", d], .tup [.lst [.str "away"], d], .tup [.non, d], .tup [], .non, .dic [], .tup [d, .str "away"]], ClA c := by
      intro c hc
      rcases List.mem_append.mp hc with hc | hc
      · rcases List.mem_append.mp hc with hc | hc
        · exact g1 c hc
        · simp only [List.mem_cons, List.not_mem_nil, or_false] at hc
          rcases hc with rfl | rfl | rfl | rfl | rfl
          · exact cla_two pdd sd
          · exact cla_two pdd sd
          · exact cla_two pdd sd
          · exact ⟨by simp [Ck.pd, Ck.pdL], fun y e => (by cases e), fun x y ds e => (by cases e)⟩
          · exact ⟨by simp [Ck.pd, Ck.pdL, pdd], fun y e => (by cases e), fun x y ds e _ => (by cases e; exact ⟨by decide +kernel, by decide +kernel⟩)⟩
      · simp only [List.mem_cons, List.not_mem_nil, or_false] at hc
        rcases hc with rfl | rfl | rfl | rfl | rfl | rfl | rfl
        · exact cla_no (by simp [Ck.pd, Ck.pdL, pdd]) rfl
        · exact cla_oth (by simp [Ck.pd, Ck.pdL, pdd]) rfl
        · exact cla_oth (by simp [Ck.pd, Ck.pdL, pdd]) rfl
        · exact ⟨by simp [Ck.pd, Ck.pdL], fun y e => (by cases e), fun x y ds e => (by cases e)⟩
        · exact cla_no rfl rfl
        · exact cla_no (by simp [Ck.pd, Ck.pdK]) rfl
        · exact cla_oth (by simp [Ck.pd, Ck.pdL, pdd]) hns
    have l2 : ((F1 ++ [D.tup [.str "Away", d], .tup [.str "home", d], .tup [.str "least", d], .tup [.str "away"], .tup [.str "away", d, .int 1]]) ++ [D.lst [.str "away", d], .tup [.lst [.str "away"], d], .tup [.non, d], .tup [], .non, .dic [], .tup [d, .str "away"]]).length ≤ 32 := by
      rw [List.length_append, List.length_append]
      show F1.length + 5 + 7 ≤ 32
      omega
    generalize (F1 ++ [D.tup [.str "Away", d], .tup [.str "home", d], .tup [.str "least", d], .tup [.str "away"], .tup [.str "away", d, .int 1]]) ++ [D.lst [.str "away", d], .tup [.lst [.str "away"], d], .tup [.non, d], .tup [], .non, .dic [], .tup [d, .str "away"]] = F2 at *
    refine wp_lcM ?_
    array_get_dec
    refine ⟨[0, 1, 2, 9, 11, 13, 15, 18, (257 : Int)].map fun m => .tup [.str "away", .tup (List.replicate m.toNat [D.int 1]).flatten], rfl, by show 9 < 100000; decide, fun j d e S0 hd he => gc_name (by decide) fun Φ k => ?_, ?_⟩
    · obtain ⟨m, hm, rfl, rfl⟩ : ∃ m : Int, (0 ≤ m ∧ m ≤ 1000) ∧ d = .int m ∧ e = .tup [.str "away", .tup (List.replicate m.toNat [D.int 1]).flatten] := by
        rw [List.getElem?_map] at he
        have hd : ([0, 1, 2, 9, 11, 13, 15, 18, (257 : Int)].map D.int)[j]? = some d := hd
        rw [List.getElem?_map] at hd
        cases q : [0, 1, 2, 9, 11, 13, 15, 18, (257 : Int)][j]? with
        | none => rw [q] at hd; cases hd
        | some m =>
          rw [q] at hd he
          cases hd
          cases he
          refine ⟨m, ?_, rfl, rfl⟩
          have := List.mem_of_getElem? q
          simp only [List.mem_cons, List.not_mem_nil, or_false] at this
          omega
      array_get_dec
      refine o_repA tp_t (by simp) hm (by show 1 ≤ 1000; decide) ?_
      array_get_dec
      exact k
    refine o_cat ls_dat ls_dat (by simp; omega) ?_
    refine rr_len p2.len (q1 _ S2 p2 (by simp; omega) fun c hc => ?_)
    rcases List.mem_append.mp hc with hc | hc
    · exact g2 c hc
    · obtain ⟨m, _, rfl⟩ := List.mem_map.mp hc
      rw [rep_one]
      exact cla_two (by rw [Ck.pd]; exact pd_ints _) (small_ints rfl (small_ones _))
end
end K34

namespace K34
open PySem PySem.Spec PyProof.Rows L2 Evl Dl
def sp_law (K : PySem.W.Frag) : Sp := fun vs H Q _ => ∃ (a : Addr) (ns : List Int), vs = [.ref a] ∧ SqL K H a (ns.map V.int) ∧ ns.length ≤ 63 ∧ ∀ H', Q (.bl true) H'
theorem home_no (c : D) (m r : Int) : Ck.homeB c (.tup [.int m, .int r]) = false := by
  unfold Ck.homeB
  split
  · have e : ∀ n : Int, Ck.ringsB n (.tup [.int m, .int r]) = false := fun n => rfl
    rw [e, Bool.false_and, Bool.and_false, Bool.and_false]
  · rfl
theorem home_away (y p : D) : Ck.homeB (.tup [.str "away", y]) p = false := by
  show (decide (Str.ofString "away" = Str.ofString "home") && (Ck.lensB y && (Ck.ringsB ((Ck.lensOf y).length : Nat) p && decide (Ck.putAll (List.replicate (Ck.lensOf y).length 0) (Ck.ringsOf p) = Ck.lensOf y)))) = false
  rw [decide_eq_false (by decide +kernel), Bool.false_and]
theorem ev_rings {n : Nat} {m r : Int} (hn : Ck.isMany (n : Nat) = true) (hf : Ck.fits (n : Nat) m r = true) : ∀ (es : List D), (∀ e ∈ es, RingD (n : Nat) e) → ∀ ls : List Int, ls.length = n → Ck.ev (Ck.putAll ls (es.map Ck.ringOf)) r % m = Ck.ev ls r % m := by
  intro es
  induction es with
  | nil => intro _ ls _; rfl
  | cons e es ih =>
    intro h ls hl
    obtain ⟨a, b, c, rfl, hr, hc⟩ := h e (by simp)
    obtain ⟨a', b', c', _, er, h2, hm, a0, a1, _⟩ := ring_is hr
    cases er
    have h1 := Ck.ev_putR (t := c) (m := m) (r := r) hl hn h2 hm a0 a1 hf
    have := ih (fun r hr => h r (by simp [hr])) (Ck.putR ls (a, b, c)) (by rw [Ck.putR_len, hl])
    rw [List.map_cons]
    exact this.trans h1
theorem cp_of {c p : D} (hc : ClA c) (hp : PaOk p) : Cp c p := ⟨hc.1, hp.1, hp.2.1, fun y e => ⟨hc.2.1 y e, hp.2.2⟩, hc.2.2⟩
theorem away_rings {n : Nat} {m r : Int} {cs : List Int} (hm : 2 ≤ m) (hz : Ck.ev cs r % m = 0) : Ck.awayB (.tup [.str "away", .tup (cs.map .int)]) (.tup [.int m, .int r]) = false := by
  show (decide (Str.ofString "away" = Str.ofString "away") && (Ck.lensB (.tup (cs.map .int)) && ((true && true) && (decide (2 ≤ m) && (decide (0 ≤ r) && decide (r < m))) && (Ck.fits ((Ck.lensOf (.tup (cs.map .int))).length : Nat) m r && !decide (Ck.ev (Ck.lensOf (.tup (cs.map .int))) r % m = 0))))) = false
  have e : Ck.lensOf (.tup (cs.map .int)) = cs := Ck.int_map _
  rw [e, hz]
  simp
theorem away_one {n : Nat} {m r : Int} (hn : Ck.isMany (n : Nat) = true) (hm : 2 ≤ m) (hr : 0 ≤ r ∧ r < m) (hf : Ck.fits (n : Nat) m r = true) : Ck.awayB (.tup [.str "away", .tup ((1 :: List.replicate (n - 1) (0 : Int)).map .int)]) (.tup [.int m, .int r]) = true := by
  have l3 := many_le hn
  show (decide (Str.ofString "away" = Str.ofString "away") && (Ck.lensB (.tup ((1 :: List.replicate (n - 1) (0 : Int)).map .int)) && ((true && true) && (decide (2 ≤ m) && (decide (0 ≤ r) && decide (r < m))) && (Ck.fits ((Ck.lensOf (.tup ((1 :: List.replicate (n - 1) (0 : Int)).map .int))).length : Nat) m r && !decide (Ck.ev (Ck.lensOf (.tup ((1 :: List.replicate (n - 1) (0 : Int)).map .int))) r % m = 0))))) = true
  have e : Ck.lensOf (.tup ((1 :: List.replicate (n - 1) (0 : Int)).map .int)) = 1 :: List.replicate (n - 1) (0 : Int) := Ck.int_map _
  have el : (1 :: List.replicate (n - 1) (0 : Int)).length = n := by simp; omega
  have eb : Ck.lensB (.tup ((1 :: List.replicate (n - 1) (0 : Int)).map .int)) = true := by
    show (Ck.isMany ((((1 :: List.replicate (n - 1) (0 : Int)).map D.int).length : Nat) : Int) && _) = true
    rw [List.length_map, el, hn, Ck.whs_map]
    rfl
  have ez : Ck.ev (1 :: List.replicate (n - 1) (0 : Int)) r % m = 1 := by
    rw [Ck.ev, Ck.ev_zeros, Int.mul_zero, Int.add_zero]
    exact Int.emod_eq_of_lt (by omega) (by omega)
  rw [e, el, eb, ez, hf]
  simp
  omega
section
variable {P : Program} {w : World} {K : PySem.W.Frag} {mg : Str → Option Value} {base : Heap} {f : Addr} {fd : FuncData}
theorem ok_law (F : FnP K "law" s_law f fd) (T : Txt K mg) (D_l_cell : Dn P w K mg base 1 "_law_cell" ["_law_script", "_law_k"] (lift K sd_cell)) (D_l_pool : Dn P w K mg base 1 "_law_pool" ["_law_cell_here"] (liftM K sd_pool)) (D_l_root : Dn P w K mg base 3 "_law_root" ["_law_pool_here", "_law_many_here", "_law_modulus_here"] (lift K sd_lroot)) (D_l_many : Dn P w K mg base 2 "_law_many" ["_law_pool_here"] (lift K sd_lmany)) (D_l_put : Dn P w K mg base 1 "_law_put" ["_law_lengths_here", "_law_rings_here"] (liftM K sd_lput)) (D_l_rings : Dn P w K mg base 2 "_law_rings" ["_law_pool_here", "_law_many_here", "_law_most"] (lift K sd_lrings)) (D_l_is : Dn P w K mg base 7 "_law_is" ["_law_claim", "_law_paper", "_law_due"] (lift K sd_lis)) (D_l_modulus : Dn P w K mg base 2 "_law_modulus" ["_law_pool_here", "_law_many_here"] (lift K sd_lmodulus)) (D_l_judged : Dn P w K mg base 3 "_law_judged" ["_law_claim", "_law_paper"] (lift K sd_ljudged)) (D_l_lengths : Dn P w K mg base 3 "_law_lengths" ["_law_pool_here", "_law_many_here"] (lift K sd_llengths)) (D_l_papers : Dn P w K mg base 3 "_law_papers" ["_law_modulus_here", "_law_root_here", "_law_pool_here"] (lift K sd_lpapers)) (D_l_claims : Dn P w K mg base 3 "_law_claims" ["_law_lengths_here", "_law_pool_here"] (lift K sd_lclaims)) : FnOk P w K mg base CX0 9 f fd ["_law_script"] (sp_law K) := by
  refine F.ok sc_law (fun vs H Q E h => ?_) (fun cdv A outer s H vs Q E hr h => ?_)
  · obtain ⟨a, ns, rfl, _⟩ := h
    rfl
  · obtain ⟨l, ns, rfl, hs, hlen, k⟩ := h
    have nx : ¬ Lv [] [] l := fun ⟨j, m, hj, _⟩ => by simp at hj
    have so : SOk K [] [] H := ⟨rfl, List.nodup_nil, fun j a m hj => by simp at hj⟩
    have rr : RepRs K [] [] H [.dat (.flst (ns.map .int))] [.ref l] := .cons (rep_script nx hs) .nil
    refine ⟨_, PSs.nox (pss_cons (ps_for PassesOwn.never rfl (pi_range1 (by rfl) T.b_range (pa_cons (pe_callB (call_max2 rfl) (by rfl) T.b_max (by decide +kernel) (pa_cons pe_int (pa_cons (pe_callB (call_min2 rfl) (by rfl) T.b_min (by decide +kernel) (pa_cons (pe_callB call_len_seq (by rfl) T.b_len (by decide +kernel) (pa_cons (pv 0) pa_nil)) (pa_cons pe_int pa_nil))) pa_nil))) pa_nil)) (pg_name (i := 1) sc_law.nd rfl (Or.inl rfl)) (pss_cons (ps_set (i := 2) sc_law.nd rfl (Or.inl rfl) (pe_cd D_l_pool (hr.mono (by decide)) (by rfl) (pa_cons (pe_cd D_l_cell (hr.mono (by decide)) (by rfl) (pa_cons (pv 0) (pa_cons (pv 1) pa_nil))) pa_nil)))
        (pss_cons (ps_set (i := 3) sc_law.nd rfl (Or.inl rfl) (pe_cd D_l_many (hr.mono (by decide)) (by rfl) (pa_cons (pv 2) pa_nil)))
        (pss_cons (ps_set (i := 4) sc_law.nd rfl (Or.inl rfl) (pe_cd D_l_modulus (hr.mono (by decide)) (by rfl) (pa_cons (pv 2) (pa_cons (pv 3) pa_nil))))
        (pss_cons (ps_set (i := 5) sc_law.nd rfl (Or.inl rfl) (pe_cd D_l_root (hr.mono (by decide)) (by rfl) (pa_cons (pv 2) (pa_cons (pv 3) (pa_cons (pv 4) pa_nil)))))
        (pss_cons (ps_set (i := 6) sc_law.nd rfl (Or.inl rfl) (pe_cd D_l_lengths (hr.mono (by decide)) (by rfl) (pa_cons (pv 2) (pa_cons (pv 3) pa_nil))))
        (pss_cons (ps_set (i := 7) sc_law.nd rfl (Or.inl rfl) (pe_tup (pa_cons pe_str (pa_cons (pv 6) pa_nil))))
        (pss_cons (ps_for PassesOwn.never rfl (pi_list (pe_op op_cat (pe_lst (pa_cons (pe_tup (pa_cons (pv 4) (pa_cons (pv 5) pa_nil))) pa_nil)) (pe_cd D_l_papers (hr.mono (by decide)) (by rfl) (pa_cons (pv 4) (pa_cons (pv 5) (pa_cons (pv 2) pa_nil)))))) (pg_name (i := 8) sc_law.nd rfl (Or.inl rfl)) (pss_one (ps_if (pt_not (pt_val (pe_cd D_l_is (hr.mono (by decide)) (by rfl) (pa_cons (pv 7) (pa_cons (pv 8) (pa_cons (pe_cd D_l_judged (hr.mono (by decide)) (by rfl) (pa_cons (pv 7) (pa_cons (pv 8) pa_nil))) pa_nil)))))) (pss_one (ps_ret pe_bl)) pss_nil)))
        (pss_cons (ps_set (i := 9) sc_law.nd rfl (Or.inl rfl) (pe_callTy call_tuple_of (by rfl) T.b_tuple (by decide +kernel) (pa_cons (pe_cd D_l_put (hr.mono (by decide)) (by rfl) (pa_cons (pe_op op_rep (pe_lst (pa_cons pe_int pa_nil)) (pv 3)) (pa_cons (pe_cd D_l_rings (hr.mono (by decide)) (by rfl) (pa_cons (pv 2) (pa_cons (pv 3) (pa_cons pe_int pa_nil)))) pa_nil))) pa_nil)))
        (pss_cons (ps_if (pt_not (pt_val (pe_cd D_l_is (hr.mono (by decide)) (by rfl) (pa_cons (pe_tup (pa_cons pe_str (pa_cons (pv 9) pa_nil))) (pa_cons (pe_tup (pa_cons (pv 4) (pa_cons (pv 5) pa_nil))) (pa_cons pe_bl pa_nil)))))) (pss_one (ps_ret pe_bl)) pss_nil)
        (pss_cons (ps_if (pt_not (pt_val (pe_cd D_l_is (hr.mono (by decide)) (by rfl) (pa_cons (pe_tup (pa_cons pe_str (pa_cons (pe_op op_catA (pe_tup (pa_cons pe_int pa_nil)) (pe_op op_repA (pe_tup (pa_cons pe_int pa_nil)) (pe_op op_sub (pv 3) pe_int))) pa_nil))) (pa_cons (pe_tup (pa_cons (pv 4) (pa_cons (pv 5) pa_nil))) (pa_cons pe_bl pa_nil)))))) (pss_one (ps_ret pe_bl)) pss_nil)
        (pss_one (ps_for PassesOwn.never rfl (pi_list (pe_cd D_l_claims (hr.mono (by decide)) (by rfl) (pa_cons (pv 6) (pa_cons (pv 2) pa_nil)))) (pg_name (i := 10) sc_law.nd rfl (Or.inl rfl)) (pss_one (ps_if (pt_not (pt_val (pe_cd D_l_is (hr.mono (by decide)) (by rfl) (pa_cons (pv 10) (pa_cons (pe_tup (pa_cons (pv 4) (pa_cons (pv 5) pa_nil))) (pa_cons (pe_cd D_l_judged (hr.mono (by decide)) (by rfl) (pa_cons (pv 10) (pa_cons (pe_tup (pa_cons (pv 4) (pa_cons (pv 5) pa_nil))) pa_nil))) pa_nil)))))) (pss_one (ps_ret pe_bl)) pss_nil)))))))))))))))
      (pss_one (ps_ret pe_bl))), fn_body (Φ := fun d _ => d = .bl true) 10 rfl so rr (fun d S' v H' e _ _ r => ?_) ?_⟩
    · subst e
      rw [rep_bl r]
      exact k H'
    try dsimp only [cxOf, Cx.nox, Cx.wish]
    array_get_dec
    refine rg1 (by omega) (by omega) ?_
    refine ⟨fun i ρ S' => ∃ v1 v2 v3 v4 v5 v6 v7 v8 v9 v10, ρ = [.dat (.flst (ns.map .int)), v1, v2, v3, v4, v5, v6, v7, v8, v9, v10], ⟨_, _, _, _, _, _, _, _, _, _, rfl⟩, ⟨?_, ?_⟩⟩
    · rintro i d ρ S hd ⟨v1, v2, v3, v4, v5, v6, v7, v8, v9, v10, rfl⟩
      unfold rng0 at hd
      have li := (List.getElem?_eq_some_iff.mp hd).1
      rw [List.length_map, List.length_range] at li
      rw [List.getElem?_map, List.getElem?_range li] at hd
      cases hd
      array_get_dec
      refine ⟨ns, i, rfl, by omega, fun c => ?_⟩
      array_get_dec
      refine ⟨c, rfl, fun ds hp0 => ?_⟩
      have hp : Has S.length (S ++ [.ls ds]) := ⟨_, hp0, st_last⟩
      dsimp only
      generalize S ++ [MO.ls ds] = S0 at *
      generalize S.length = k at *
      show WpS K _ [_, _, _, _, _, _, _, _, _, _, _] _ _ _ _ _
      array_get_dec
      refine lmany_go hp fun n0 S1 p1 hn => ?_
      have h1 := p1.has hp
      have lm := many_le hn
      obtain ⟨n, rfl⟩ := Int.eq_ofNat_of_zero_le (show 0 ≤ n0 by omega)
      array_get_dec
      refine ⟨k, n, rfl, h1, hn, fun m S2 p2 gm => ?_⟩
      have h2 := p2.has h1
      have hm := gm.1
      array_get_dec
      refine lroot_go h2 lm gm fun r S3 p3 hr0 hf => ?_
      have h3 := p3.has h2
      array_get_dec
      refine ⟨k, n, rfl, h3, hn, fun ls d S4 p4 ll lb hd => ?_⟩
      have h4 := p4.has h3
      have pdd : Ck.pd d = true := by
        rcases hd with rfl | rfl <;> (rw [Ck.pd]; exact pd_ints ls)
      have it : Ck.items d = some (ls.map .int) := by
        rcases hd with rfl | rfl <;> rfl
      have ca : ClA (.tup [.str "away", d]) := cla_two pdd (small_ints it lb)
      have pmr : PaOk (.tup [.int m, .int r]) := pa_two (by omega)
      array_get_dec
      refine ⟨m, r, k, rfl, hm, hr0, h4, fun ps S5 p5 lp gp => ?_⟩
      have h5 := p5.has h4
      array_get_dec
      · show 1 + ps.length ≤ 100000
        omega
      have gp2 : ∀ p ∈ [D.tup [.int m, .int r]] ++ ps, PaOk p := fun p hp => by
        rcases List.mem_append.mp hp with h | h
        · rw [List.mem_singleton.mp h]
          exact pmr
        · exact gp p h
      generalize [D.tup [.int m, .int r]] ++ ps = qs at *
      refine ⟨fun j ρ S' => ∃ v8 v9 v10, ρ = [.dat (.flst (ns.map .int)), .dat (.int (i : Nat)), .mu k, .dat (.int (n : Nat)), .dat (.int m), .dat (.int r), .dat d, .dat (.tup [.str "away", d]), v8, v9, v10] ∧ S' = S5, ⟨_, _, _, rfl, rfl⟩, ⟨?_, ?_⟩⟩
      · rintro j p ρ S' hd ⟨v8, v9, v10, rfl, rfl⟩
        have gpp := gp2 p (List.mem_of_getElem? hd)
        array_get_dec
        refine ⟨_, _, rfl, cp_of ca gpp, ?_⟩
        array_get_dec
        refine ⟨_, _, _, rfl, cp_of ca gpp, ?_⟩
        rw [home_away, Bool.false_or, decide_eq_true rfl]
        array_get_dec
        exact ⟨_, _, _, rfl, rfl⟩
      · rintro ρ S' ⟨v8, v9, v10, rfl, rfl⟩
        array_get_dec
        refine o_rep ls_dat (by omega) (by show 1 * (n : Int).toNat ≤ 100000; omega) ?_
        rw [Int.toNat_natCast, rep_zero]
        array_get_dec
        refine lrings_go h5 hn (by decide) fun es S6 p6 le hes => ?_
        have h6 := p6.has h5
        have le6 : es.length ≤ 4 := le
        array_get_dec
        have ha : es.all (Ck.ringB (n : Nat)) = true := by
          rw [List.all_eq_true]
          intro r hr
          obtain ⟨a, b, c, _, hb, _⟩ := hes r hr
          exact hb
        refine ⟨_, List.replicate n 0, _, es, rfl, sq_l, by rw [List.length_replicate]; omega, .inl rfl, by omega, by rw [List.length_replicate]; exact ha, ?_⟩
        have pb := put_bnd es hes (B := 0) (ls := List.replicate n 0) (List.length_replicate ..) (fun l hl => by rw [List.eq_of_mem_replicate hl]; decide)
        have hz := ev_rings hn hf es hes (List.replicate n 0) (List.length_replicate ..)
        rw [Ck.ev_zeros, Int.zero_emod] at hz
        have pb2 : ∀ l ∈ Ck.putAll (List.replicate n 0) (es.map Ck.ringOf), l.natAbs < 2 ^ 300 := fun l hl => by
          have h1 := pb l hl
          have h2 : es.length * (7 * 2 ^ 100) ≤ 4 * (7 * 2 ^ 100) := Nat.mul_le_mul_right _ le6
          have h3 : 0 + 4 * (7 * 2 ^ 100) < 2 ^ 110 := by decide
          have big : (2 : Nat) ^ 110 < 2 ^ 300 := Nat.pow_lt_pow_right (by decide) (by decide)
          omega
        generalize Ck.putAll (List.replicate n 0) (es.map Ck.ringOf) = cs at *
        array_get_dec
        refine ⟨_, _, false, rfl, cp_of (cla_two (by rw [Ck.pd]; exact pd_ints cs) (small_ints rfl pb2)) pmr, ?_⟩
        rw [home_away, Bool.false_or, away_rings (n := n) hm.1 hz, decide_eq_true rfl]
        array_get_dec
        refine o_repA tp_t (by simp) (by omega) (by show 1 ≤ 1000; decide) ?_
        rw [show ((n : Int) - 1).toNat = n - 1 by omega, rep_zero]
        array_get_dec
        · rw [List.length_map, List.length_replicate]
          show 1 + (n - 1) ≤ 100000
          omega
        have ao := away_one hn hm.1 hr0 hf
        have eo : [D.int 1] ++ (List.replicate (n - 1) (0 : Int)).map D.int = (1 :: List.replicate (n - 1) (0 : Int)).map D.int := rfl
        rw [eo]
        have sb : ∀ l ∈ 1 :: List.replicate (n - 1) (0 : Int), l.natAbs < 2 ^ 300 := fun l hl => by
          rcases List.mem_cons.mp hl with rfl | hl
          · exact Nat.one_lt_two_pow (by decide)
          · rw [List.eq_of_mem_replicate hl]
            exact Nat.two_pow_pos 300
        generalize 1 :: List.replicate (n - 1) (0 : Int) = os at *
        refine ⟨_, _, true, rfl, cp_of (cla_two (by rw [Ck.pd]; exact pd_ints os) (small_ints rfl sb)) pmr, ?_⟩
        rw [home_away, Bool.false_or, ao, decide_eq_true rfl]
        array_get_dec
        refine ⟨d, ls, k, rfl, hd, by omega, lb, h6.app, fun gs S7 p7 lg cg => ?_⟩
        array_get_dec
        refine ⟨fun j ρ S' => ∃ v8 v9 v10, ρ = [.dat (.flst (ns.map .int)), .dat (.int (i : Nat)), .mu k, .dat (.int (n : Nat)), .dat (.int m), .dat (.int r), .dat d, .dat (.tup [.str "away", d]), v8, v9, v10] ∧ S' = S7, ⟨_, _, _, rfl, rfl⟩, ⟨?_, ?_⟩⟩
        · rintro j p ρ S' hd ⟨v8, v9, v10, rfl, rfl⟩
          have cp := cp_of (cg p (List.mem_of_getElem? hd)) pmr
          array_get_dec
          refine ⟨_, _, rfl, cp, ?_⟩
          array_get_dec
          refine ⟨_, _, _, rfl, cp, ?_⟩
          rw [home_no, Bool.false_or, decide_eq_true rfl]
          array_get_dec
          exact ⟨_, _, _, rfl, rfl⟩
        · rintro ρ S' ⟨v8, v9, v10, rfl, rfl⟩
          exact ⟨_, _, _, _, _, _, _, _, _, _, rfl⟩
    · rintro ρ S ⟨v1, v2, v3, v4, v5, v6, v7, v8, v9, v10, rfl⟩
      array_get_dec
      rfl
end
end K34

namespace K34
open PySem PySem.Spec PyProof.Rows L2 Evl Dl
theorem facts {P : Program} {w : World} {K : PySem.W.Frag} {h : Heap} {mg : Str → Option Value} {f : Addr} (X : K.In h) (G : h.Ns mainGlobals mg) (hfa : mg ("law" : Str) = some (.ref f)) (c : He.SaysD fa fn K) (cx : ex K = true) :
    ∃ fd : FuncData, (∀ (s : Shared) (v : Value), BindsTo s fd ⟨[v], []⟩ [("_law_script", v)]) ∧ ∀ base : Heap, K.In base → base.Ns mainGlobals mg → FnOk P w K mg base CX0 9 f fd ["_law_script"] (sp_law K) := by
  obtain ⟨cx0, cx1⟩ := He.ba cx
  have T : Txt K mg := { b_isinstance := He.free_ok X G (c.fact 37 (f := .free "isinstance") rfl), b_int := He.free_ok X G (c.fact 38 (f := .free "int") rfl), b_bool := He.free_ok X G (c.fact 39 (f := .free "bool") rfl), b_abs := He.free_ok X G (c.fact 40 (f := .free "abs") rfl), b_len := He.free_ok X G (c.fact 41 (f := .free "len") rfl), b_divmod := He.free_ok X G (c.fact 42 (f := .free "divmod") rfl), b_range := He.free_ok X G (c.fact 43 (f := .free "range") rfl), b_max := He.free_ok X G (c.fact 44 (f := .free "max") rfl), b_min := He.free_ok X G (c.fact 45 (f := .free "min") rfl), b_str := He.free_ok X G (c.fact 46 (f := .free "str") rfl), b_tuple := He.free_ok X G (c.fact 47 (f := .free "tuple") rfl), b_all := He.free_ok X G (c.fact 48 (f := .free "all") rfl), b_list := He.free_ok X G (c.fact 49 (f := .free "list") rfl), b_sum := He.free_ok X G (c.fact 50 (f := .free "sum") rfl), g_LEAST_MANY := He.int_ok X G (c.fact 51 (f := .int "LEAST_MANY" 3) rfl), g_MOST_MANY := He.int_ok X G (c.fact 52 (f := .int "MOST_MANY" 256) rfl), g_ODD_SIZES := He.glo_ok X G (c.fact 53 (f := .glo "ODD_SIZES") rfl), g_SIZES := He.glo_ok X G (c.fact 54 (f := .glo "SIZES") rfl), t_ODD_SIZES := fun H => He.tupB_ok cx0 H, t_SIZES := fun H => He.tupB_ok cx1 H }
  obtain ⟨fd_holds, F0_holds⟩ := c.def_ 0 (d := d_holds) rfl
  have F_holds : FnP K "holds" s_holds (He.ga K "holds") fd_holds := F0_holds
  have g_holds := He.glo_ok X G (c.fact 0 (f := .glo "holds") rfl)
  have b_holds : Binds K fd_holds ["claim", "paper"] [] := F_holds.bindsN fun _ _ _ _ _ _ us hl => match us, hl with | [_, _], _ => rfl
  obtain ⟨fd_shows_home, F0_shows_home⟩ := c.def_ 1 (d := d_shows_home) rfl
  have F_shows_home : FnP K "shows_home" s_shows_home (He.ga K "shows_home") fd_shows_home := F0_shows_home
  have g_shows_home := He.glo_ok X G (c.fact 1 (f := .glo "shows_home") rfl)
  have b_shows_home : Binds K fd_shows_home ["lengths", "paper"] [] := F_shows_home.bindsN fun _ _ _ _ _ _ us hl => match us, hl with | [_, _], _ => rfl
  obtain ⟨fd_shows_away, F0_shows_away⟩ := c.def_ 2 (d := d_shows_away) rfl
  have F_shows_away : FnP K "shows_away" s_shows_away (He.ga K "shows_away") fd_shows_away := F0_shows_away
  have g_shows_away := He.glo_ok X G (c.fact 2 (f := .glo "shows_away") rfl)
  have b_shows_away : Binds K fd_shows_away ["lengths", "paper"] [] := F_shows_away.bindsN fun _ _ _ _ _ _ us hl => match us, hl with | [_, _], _ => rfl
  obtain ⟨fd_is_whole, F0_is_whole⟩ := c.def_ 3 (d := d_is_whole) rfl
  have F_is_whole : FnP K "is_whole" s_is_whole (He.ga K "is_whole") fd_is_whole := F0_is_whole
  have g_is_whole := He.glo_ok X G (c.fact 3 (f := .glo "is_whole") rfl)
  have b_is_whole : Binds K fd_is_whole ["thing"] [] := F_is_whole.bindsN fun _ _ _ _ _ _ us hl => match us, hl with | [_], _ => rfl
  obtain ⟨fd_is_many, F0_is_many⟩ := c.def_ 4 (d := d_is_many) rfl
  have F_is_many : FnP K "is_many" s_is_many (He.ga K "is_many") fd_is_many := F0_is_many
  have g_is_many := He.glo_ok X G (c.fact 4 (f := .glo "is_many") rfl)
  have b_is_many : Binds K fd_is_many ["thing"] [] := F_is_many.bindsN fun _ _ _ _ _ _ us hl => match us, hl with | [_], _ => rfl
  obtain ⟨fd_is_place, F0_is_place⟩ := c.def_ 5 (d := d_is_place) rfl
  have F_is_place : FnP K "is_place" s_is_place (He.ga K "is_place") fd_is_place := F0_is_place
  have g_is_place := He.glo_ok X G (c.fact 5 (f := .glo "is_place") rfl)
  have b_is_place : Binds K fd_is_place ["thing", "many"] [] := F_is_place.bindsN fun _ _ _ _ _ _ us hl => match us, hl with | [_, _], _ => rfl
  obtain ⟨fd_are_lengths, F0_are_lengths⟩ := c.def_ 6 (d := d_are_lengths) rfl
  have F_are_lengths : FnP K "are_lengths" s_are_lengths (He.ga K "are_lengths") fd_are_lengths := F0_are_lengths
  have g_are_lengths := He.glo_ok X G (c.fact 6 (f := .glo "are_lengths") rfl)
  have b_are_lengths : Binds K fd_are_lengths ["thing"] [] := F_are_lengths.bindsN fun _ _ _ _ _ _ us hl => match us, hl with | [_], _ => rfl
  obtain ⟨fd_are_rings, F0_are_rings⟩ := c.def_ 7 (d := d_are_rings) rfl
  have F_are_rings : FnP K "are_rings" s_are_rings (He.ga K "are_rings") fd_are_rings := F0_are_rings
  have g_are_rings := He.glo_ok X G (c.fact 7 (f := .glo "are_rings") rfl)
  have b_are_rings : Binds K fd_are_rings ["thing", "many"] [] := F_are_rings.bindsN fun _ _ _ _ _ _ us hl => match us, hl with | [_, _], _ => rfl
  obtain ⟨fd_is_ring, F0_is_ring⟩ := c.def_ 8 (d := d_is_ring) rfl
  have F_is_ring : FnP K "is_ring" s_is_ring (He.ga K "is_ring") fd_is_ring := F0_is_ring
  have g_is_ring := He.glo_ok X G (c.fact 8 (f := .glo "is_ring") rfl)
  have b_is_ring : Binds K fd_is_ring ["thing", "many"] [] := F_is_ring.bindsN fun _ _ _ _ _ _ us hl => match us, hl with | [_, _], _ => rfl
  obtain ⟨fd_with_rings, F0_with_rings⟩ := c.def_ 9 (d := d_with_rings) rfl
  have F_with_rings : FnP K "with_rings" s_with_rings (He.ga K "with_rings") fd_with_rings := F0_with_rings
  have g_with_rings := He.glo_ok X G (c.fact 9 (f := .glo "with_rings") rfl)
  have b_with_rings : Binds K fd_with_rings ["lengths", "rings"] [] := F_with_rings.bindsN fun _ _ _ _ _ _ us hl => match us, hl with | [_, _], _ => rfl
  obtain ⟨fd_root_fits, F0_root_fits⟩ := c.def_ 10 (d := d_root_fits) rfl
  have F_root_fits : FnP K "root_fits" s_root_fits (He.ga K "root_fits") fd_root_fits := F0_root_fits
  have g_root_fits := He.glo_ok X G (c.fact 10 (f := .glo "root_fits") rfl)
  have b_root_fits : Binds K fd_root_fits ["many", "modulus", "root"] [] := F_root_fits.bindsN fun _ _ _ _ _ _ us hl => match us, hl with | [_, _, _], _ => rfl
  obtain ⟨fd_summed, F0_summed⟩ := c.def_ 11 (d := d_summed) rfl
  have F_summed : FnP K "summed" s_summed (He.ga K "summed") fd_summed := F0_summed
  have g_summed := He.glo_ok X G (c.fact 11 (f := .glo "summed") rfl)
  have b_summed : Binds K fd_summed ["lengths", "modulus", "root"] [] := F_summed.bindsN fun _ _ _ _ _ _ us hl => match us, hl with | [_, _, _], _ => rfl
  obtain ⟨fd_power, F0_power⟩ := c.def_ 12 (d := d_power) rfl
  have F_power : FnP K "power" s_power (He.ga K "power") fd_power := F0_power
  have g_power := He.glo_ok X G (c.fact 12 (f := .glo "power") rfl)
  have b_power : Binds K fd_power ["root", "times", "modulus"] [] := F_power.bindsN fun _ _ _ _ _ _ us hl => match us, hl with | [_, _, _], _ => rfl
  obtain ⟨fd_l_cell, F0_l_cell⟩ := c.def_ 13 (d := d_l_cell) rfl
  have F_l_cell : FnP K "_law_cell" s_l_cell (He.ga K "_law_cell") fd_l_cell := F0_l_cell
  have g_l_cell := He.glo_ok X G (c.fact 13 (f := .glo "_law_cell") rfl)
  have b_l_cell : Binds K fd_l_cell ["_law_script", "_law_k"] [] := F_l_cell.bindsN fun _ _ _ _ _ _ us hl => match us, hl with | [_, _], _ => rfl
  obtain ⟨fd_l_pool, F0_l_pool⟩ := c.def_ 14 (d := d_l_pool) rfl
  have F_l_pool : FnP K "_law_pool" s_l_pool (He.ga K "_law_pool") fd_l_pool := F0_l_pool
  have g_l_pool := He.glo_ok X G (c.fact 14 (f := .glo "_law_pool") rfl)
  have b_l_pool : Binds K fd_l_pool ["_law_cell_here"] [] := F_l_pool.bindsN fun _ _ _ _ _ _ us hl => match us, hl with | [_], _ => rfl
  obtain ⟨fd_l_take, F0_l_take⟩ := c.def_ 15 (d := d_l_take) rfl
  have F_l_take : FnP K "_law_take" s_l_take (He.ga K "_law_take") fd_l_take := F0_l_take
  have g_l_take := He.glo_ok X G (c.fact 15 (f := .glo "_law_take") rfl)
  have b_l_take : Binds K fd_l_take ["_law_pool_here", "_law_many_here"] [] := F_l_take.bindsN fun _ _ _ _ _ _ us hl => match us, hl with | [_, _], _ => rfl
  obtain ⟨fd_l_many, F0_l_many⟩ := c.def_ 16 (d := d_l_many) rfl
  have F_l_many : FnP K "_law_many" s_l_many (He.ga K "_law_many") fd_l_many := F0_l_many
  have g_l_many := He.glo_ok X G (c.fact 16 (f := .glo "_law_many") rfl)
  have b_l_many : Binds K fd_l_many ["_law_pool_here"] [] := F_l_many.bindsN fun _ _ _ _ _ _ us hl => match us, hl with | [_], _ => rfl
  obtain ⟨fd_l_is_many, F0_l_is_many⟩ := c.def_ 17 (d := d_l_is_many) rfl
  have F_l_is_many : FnP K "_law_is_many" s_l_is_many (He.ga K "_law_is_many") fd_l_is_many := F0_l_is_many
  have g_l_is_many := He.glo_ok X G (c.fact 17 (f := .glo "_law_is_many") rfl)
  have b_l_is_many : Binds K fd_l_is_many ["_law_many_here"] [] := F_l_is_many.bindsN fun _ _ _ _ _ _ us hl => match us, hl with | [_], _ => rfl
  obtain ⟨fd_l_whole, F0_l_whole⟩ := c.def_ 18 (d := d_l_whole) rfl
  have F_l_whole : FnP K "_law_whole" s_l_whole (He.ga K "_law_whole") fd_l_whole := F0_l_whole
  have g_l_whole := He.glo_ok X G (c.fact 18 (f := .glo "_law_whole") rfl)
  have b_l_whole : Binds K fd_l_whole ["_law_thing"] [] := F_l_whole.bindsN fun _ _ _ _ _ _ us hl => match us, hl with | [_], _ => rfl
  obtain ⟨fd_l_row_of, F0_l_row_of⟩ := c.def_ 19 (d := d_l_row_of) rfl
  have F_l_row_of : FnP K "_law_row_of" s_l_row_of (He.ga K "_law_row_of") fd_l_row_of := F0_l_row_of
  have g_l_row_of := He.glo_ok X G (c.fact 19 (f := .glo "_law_row_of") rfl)
  have b_l_row_of : Binds K fd_l_row_of ["_law_thing", "_law_many_here"] [] := F_l_row_of.bindsN fun _ _ _ _ _ _ us hl => match us, hl with | [_, _], _ => rfl
  obtain ⟨fd_l_put, F0_l_put⟩ := c.def_ 20 (d := d_l_put) rfl
  have F_l_put : FnP K "_law_put" s_l_put (He.ga K "_law_put") fd_l_put := F0_l_put
  have g_l_put := He.glo_ok X G (c.fact 20 (f := .glo "_law_put") rfl)
  have b_l_put : Binds K fd_l_put ["_law_lengths_here", "_law_rings_here"] [] := F_l_put.bindsN fun _ _ _ _ _ _ us hl => match us, hl with | [_, _], _ => rfl
  obtain ⟨fd_l_sizes, F0_l_sizes⟩ := c.def_ 21 (d := d_l_sizes) rfl
  have F_l_sizes : FnP K "_law_sizes" s_l_sizes (He.ga K "_law_sizes") fd_l_sizes := F0_l_sizes
  have g_l_sizes := He.glo_ok X G (c.fact 21 (f := .glo "_law_sizes") rfl)
  have b_l_sizes : Binds K fd_l_sizes ["_law_many_here"] [] := F_l_sizes.bindsN fun _ _ _ _ _ _ us hl => match us, hl with | [_], _ => rfl
  obtain ⟨fd_l_rings, F0_l_rings⟩ := c.def_ 22 (d := d_l_rings) rfl
  have F_l_rings : FnP K "_law_rings" s_l_rings (He.ga K "_law_rings") fd_l_rings := F0_l_rings
  have g_l_rings := He.glo_ok X G (c.fact 22 (f := .glo "_law_rings") rfl)
  have b_l_rings : Binds K fd_l_rings ["_law_pool_here", "_law_many_here", "_law_most"] [] := F_l_rings.bindsN fun _ _ _ _ _ _ us hl => match us, hl with | [_, _, _], _ => rfl
  obtain ⟨fd_l_is, F0_l_is⟩ := c.def_ 23 (d := d_l_is) rfl
  have F_l_is : FnP K "_law_is" s_l_is (He.ga K "_law_is") fd_l_is := F0_l_is
  have g_l_is := He.glo_ok X G (c.fact 23 (f := .glo "_law_is") rfl)
  have b_l_is : Binds K fd_l_is ["_law_claim", "_law_paper", "_law_due"] [] := F_l_is.bindsN fun _ _ _ _ _ _ us hl => match us, hl with | [_, _, _], _ => rfl
  obtain ⟨fd_l_at, F0_l_at⟩ := c.def_ 24 (d := d_l_at) rfl
  have F_l_at : FnP K "_law_at" s_l_at (He.ga K "_law_at") fd_l_at := F0_l_at
  have g_l_at := He.glo_ok X G (c.fact 24 (f := .glo "_law_at") rfl)
  have b_l_at : Binds K fd_l_at ["_law_row", "_law_at_here", "_law_thing"] [] := F_l_at.bindsN fun _ _ _ _ _ _ us hl => match us, hl with | [_, _, _], _ => rfl
  obtain ⟨fd_l_odd_rows, F0_l_odd_rows⟩ := c.def_ 25 (d := d_l_odd_rows) rfl
  have F_l_odd_rows : FnP K "_law_odd_rows" s_l_odd_rows (He.ga K "_law_odd_rows") fd_l_odd_rows := F0_l_odd_rows
  have g_l_odd_rows := He.glo_ok X G (c.fact 25 (f := .glo "_law_odd_rows") rfl)
  have b_l_odd_rows : Binds K fd_l_odd_rows ["_law_row", "_law_pool_here"] [] := F_l_odd_rows.bindsN fun _ _ _ _ _ _ us hl => match us, hl with | [_, _], _ => rfl
  obtain ⟨fd_l_power, F0_l_power⟩ := c.def_ 26 (d := d_l_power) rfl
  have F_l_power : FnP K "_law_power" s_l_power (He.ga K "_law_power") fd_l_power := F0_l_power
  have g_l_power := He.glo_ok X G (c.fact 26 (f := .glo "_law_power") rfl)
  have b_l_power : Binds K fd_l_power ["_law_root_here", "_law_many_here", "_law_modulus_here"] [] := F_l_power.bindsN fun _ _ _ _ _ _ us hl => match us, hl with | [_, _, _], _ => rfl
  obtain ⟨fd_l_is_root, F0_l_is_root⟩ := c.def_ 27 (d := d_l_is_root) rfl
  have F_l_is_root : FnP K "_law_is_root" s_l_is_root (He.ga K "_law_is_root") fd_l_is_root := F0_l_is_root
  have g_l_is_root := He.glo_ok X G (c.fact 27 (f := .glo "_law_is_root") rfl)
  have b_l_is_root : Binds K fd_l_is_root ["_law_root_here", "_law_many_here", "_law_modulus_here"] [] := F_l_is_root.bindsN fun _ _ _ _ _ _ us hl => match us, hl with | [_, _, _], _ => rfl
  obtain ⟨fd_l_comes, F0_l_comes⟩ := c.def_ 28 (d := d_l_comes) rfl
  have F_l_comes : FnP K "_law_comes" s_l_comes (He.ga K "_law_comes") fd_l_comes := F0_l_comes
  have g_l_comes := He.glo_ok X G (c.fact 28 (f := .glo "_law_comes") rfl)
  have b_l_comes : Binds K fd_l_comes ["_law_lengths_here", "_law_root_here", "_law_modulus_here"] [] := F_l_comes.bindsN fun _ _ _ _ _ _ us hl => match us, hl with | [_, _, _], _ => rfl
  obtain ⟨fd_l_primes, F0_l_primes⟩ := c.def_ 29 (d := d_l_primes) rfl
  have F_l_primes : FnP K "_law_primes" s_l_primes (He.ga K "_law_primes") fd_l_primes := F0_l_primes
  have g_l_primes := He.glo_ok X G (c.fact 29 (f := .glo "_law_primes") rfl)
  have b_l_primes : Binds K fd_l_primes ["_law_many_here"] [] := F_l_primes.bindsN fun _ _ _ _ _ _ us hl => match us, hl with | [_], _ => rfl
  obtain ⟨fd_l_root, F0_l_root⟩ := c.def_ 30 (d := d_l_root) rfl
  have F_l_root : FnP K "_law_root" s_l_root (He.ga K "_law_root") fd_l_root := F0_l_root
  have g_l_root := He.glo_ok X G (c.fact 30 (f := .glo "_law_root") rfl)
  have b_l_root : Binds K fd_l_root ["_law_pool_here", "_law_many_here", "_law_modulus_here"] [] := F_l_root.bindsN fun _ _ _ _ _ _ us hl => match us, hl with | [_, _, _], _ => rfl
  obtain ⟨fd_l_judged, F0_l_judged⟩ := c.def_ 31 (d := d_l_judged) rfl
  have F_l_judged : FnP K "_law_judged" s_l_judged (He.ga K "_law_judged") fd_l_judged := F0_l_judged
  have g_l_judged := He.glo_ok X G (c.fact 31 (f := .glo "_law_judged") rfl)
  have b_l_judged : Binds K fd_l_judged ["_law_claim", "_law_paper"] [] := F_l_judged.bindsN fun _ _ _ _ _ _ us hl => match us, hl with | [_, _], _ => rfl
  obtain ⟨fd_l_lengths, F0_l_lengths⟩ := c.def_ 32 (d := d_l_lengths) rfl
  have F_l_lengths : FnP K "_law_lengths" s_l_lengths (He.ga K "_law_lengths") fd_l_lengths := F0_l_lengths
  have g_l_lengths := He.glo_ok X G (c.fact 32 (f := .glo "_law_lengths") rfl)
  have b_l_lengths : Binds K fd_l_lengths ["_law_pool_here", "_law_many_here"] [] := F_l_lengths.bindsN fun _ _ _ _ _ _ us hl => match us, hl with | [_, _], _ => rfl
  obtain ⟨fd_l_papers, F0_l_papers⟩ := c.def_ 33 (d := d_l_papers) rfl
  have F_l_papers : FnP K "_law_papers" s_l_papers (He.ga K "_law_papers") fd_l_papers := F0_l_papers
  have g_l_papers := He.glo_ok X G (c.fact 33 (f := .glo "_law_papers") rfl)
  have b_l_papers : Binds K fd_l_papers ["_law_modulus_here", "_law_root_here", "_law_pool_here"] [] := F_l_papers.bindsN fun _ _ _ _ _ _ us hl => match us, hl with | [_, _, _], _ => rfl
  obtain ⟨fd_l_claims, F0_l_claims⟩ := c.def_ 34 (d := d_l_claims) rfl
  have F_l_claims : FnP K "_law_claims" s_l_claims (He.ga K "_law_claims") fd_l_claims := F0_l_claims
  have g_l_claims := He.glo_ok X G (c.fact 34 (f := .glo "_law_claims") rfl)
  have b_l_claims : Binds K fd_l_claims ["_law_lengths_here", "_law_pool_here"] [] := F_l_claims.bindsN fun _ _ _ _ _ _ us hl => match us, hl with | [_, _], _ => rfl
  obtain ⟨fd_l_modulus, F0_l_modulus⟩ := c.def_ 35 (d := d_l_modulus) rfl
  have F_l_modulus : FnP K "_law_modulus" s_l_modulus (He.ga K "_law_modulus") fd_l_modulus := F0_l_modulus
  have g_l_modulus := He.glo_ok X G (c.fact 35 (f := .glo "_law_modulus") rfl)
  have b_l_modulus : Binds K fd_l_modulus ["_law_pool_here", "_law_many_here"] [] := F_l_modulus.bindsN fun _ _ _ _ _ _ us hl => match us, hl with | [_, _], _ => rfl
  obtain ⟨fd_law, F0_law⟩ := c.def_ 36 (d := d_law) rfl
  have F_law : FnP K "law" s_law (He.ga K "law") fd_law := F0_law
  have g_law := He.glo_ok X G (c.fact 36 (f := .glo "law") rfl)
  have e := hfa.symm.trans g_law
  cases e
  have bl := FunD.bindsA (ps := ["_law_script"]) F_law fun _ _ _ _ _ _ us hl => match us, hl with | [_], _ => rfl
  refine ⟨fd_law, fun s v => bl s [v] rfl, fun base _ _ => ?_⟩
  have D_l_cell : Dn P w K mg base 1 "_law_cell" ["_law_script", "_law_k"] (lift K sd_cell) := ⟨_, _, ok_l_cell F_l_cell T , g_l_cell, F_l_cell.kp, b_l_cell⟩
  have D_l_pool : Dn P w K mg base 1 "_law_pool" ["_law_cell_here"] (liftM K sd_pool) := ⟨_, _, ok_l_pool F_l_pool T , g_l_pool, F_l_pool.kp, b_l_pool⟩
  have D_l_take : Dn P w K mg base 1 "_law_take" ["_law_pool_here", "_law_many_here"] (lift K sd_take) := ⟨_, _, ok_l_take F_l_take T , g_l_take, F_l_take.kp, b_l_take⟩
  have D_is_whole : Dn P w K mg base 1 "is_whole" ["thing"] (lift K sd_is_whole) := ⟨_, _, ok_is_whole F_is_whole T , g_is_whole, F_is_whole.kp, b_is_whole⟩
  have D_is_many : Dn P w K mg base 2 "is_many" ["thing"] (lift K sd_is_many) := ⟨_, _, ok_is_many F_is_many T D_is_whole, g_is_many, F_is_many.kp, b_is_many⟩
  have D_is_place : Dn P w K mg base 2 "is_place" ["thing", "many"] (lift K sd_is_place) := ⟨_, _, ok_is_place F_is_place T D_is_whole, g_is_place, F_is_place.kp, b_is_place⟩
  have D_are_lengths : Dn P w K mg base 3 "are_lengths" ["thing"] (lift K sd_are_lengths) := ⟨_, _, ok_are_lengths F_are_lengths T D_is_whole D_is_many, g_are_lengths, F_are_lengths.kp, b_are_lengths⟩
  have D_is_ring : Dn P w K mg base 3 "is_ring" ["thing", "many"] (lift K sd_is_ring) := ⟨_, _, ok_is_ring F_is_ring T D_is_whole D_is_place, g_is_ring, F_is_ring.kp, b_is_ring⟩
  have D_are_rings : Dn P w K mg base 4 "are_rings" ["thing", "many"] (lift K sd_are_rings) := ⟨_, _, ok_are_rings F_are_rings T D_is_ring, g_are_rings, F_are_rings.kp, b_are_rings⟩
  have D_with_rings : Dn P w K mg base 1 "with_rings" ["lengths", "rings"] (lift K sd_with_rings) := ⟨_, _, ok_with_rings F_with_rings T , g_with_rings, F_with_rings.kp, b_with_rings⟩
  have D_power : Dn P w K mg base 1 "power" ["root", "times", "modulus"] (lift K sd_power) := ⟨_, _, ok_power F_power T , g_power, F_power.kp, b_power⟩
  have D_summed : Dn P w K mg base 1 "summed" ["lengths", "modulus", "root"] (lift K sd_summed) := ⟨_, _, ok_summed F_summed T , g_summed, F_summed.kp, b_summed⟩
  have D_root_fits : Dn P w K mg base 2 "root_fits" ["many", "modulus", "root"] (lift K sd_root_fits) := ⟨_, _, ok_root_fits F_root_fits T D_power D_summed, g_root_fits, F_root_fits.kp, b_root_fits⟩
  have D_shows_away : Dn P w K mg base 5 "shows_away" ["lengths", "paper"] (lift K sd_shows_away) := ⟨_, _, ok_shows_away F_shows_away T D_is_whole D_are_lengths D_summed D_root_fits, g_shows_away, F_shows_away.kp, b_shows_away⟩
  have D_shows_home : Dn P w K mg base 5 "shows_home" ["lengths", "paper"] (lift K sd_shows_home) := ⟨_, _, ok_shows_home F_shows_home T D_are_lengths D_are_rings D_with_rings, g_shows_home, F_shows_home.kp, b_shows_home⟩
  have D_holds : Dn P w K mg base 6 "holds" ["claim", "paper"] (lift K sd_holds) := ⟨_, _, ok_holds F_holds T D_shows_away D_shows_home, g_holds, F_holds.kp, b_holds⟩
  have D_l_power : Dn P w K mg base 1 "_law_power" ["_law_root_here", "_law_many_here", "_law_modulus_here"] (lift K sd_lpower) := ⟨_, _, ok_l_power F_l_power T , g_l_power, F_l_power.kp, b_l_power⟩
  have D_l_is_root : Dn P w K mg base 2 "_law_is_root" ["_law_root_here", "_law_many_here", "_law_modulus_here"] (lift K sd_lis_root) := ⟨_, _, ok_l_is_root F_l_is_root T D_l_power, g_l_is_root, F_l_is_root.kp, b_l_is_root⟩
  have D_l_comes : Dn P w K mg base 1 "_law_comes" ["_law_lengths_here", "_law_root_here", "_law_modulus_here"] (lift K sd_lcomes) := ⟨_, _, ok_l_comes F_l_comes T , g_l_comes, F_l_comes.kp, b_l_comes⟩
  have D_l_primes : Dn P w K mg base 1 "_law_primes" ["_law_many_here"] (lift K sd_lprimes) := ⟨_, _, ok_l_primes F_l_primes T , g_l_primes, F_l_primes.kp, b_l_primes⟩
  have D_l_root : Dn P w K mg base 3 "_law_root" ["_law_pool_here", "_law_many_here", "_law_modulus_here"] (lift K sd_lroot) := ⟨_, _, ok_l_root F_l_root T D_l_take D_l_is_root, g_l_root, F_l_root.kp, b_l_root⟩
  have D_l_many : Dn P w K mg base 2 "_law_many" ["_law_pool_here"] (lift K sd_lmany) := ⟨_, _, ok_l_many F_l_many T D_l_take, g_l_many, F_l_many.kp, b_l_many⟩
  have D_l_is_many : Dn P w K mg base 1 "_law_is_many" ["_law_many_here"] (lift K sd_lis_many) := ⟨_, _, ok_l_is_many F_l_is_many T , g_l_is_many, F_l_is_many.kp, b_l_is_many⟩
  have D_l_whole : Dn P w K mg base 1 "_law_whole" ["_law_thing"] (lift K sd_is_whole) := ⟨_, _, ok_l_whole F_l_whole T , g_l_whole, F_l_whole.kp, b_l_whole⟩
  have D_l_row_of : Dn P w K mg base 2 "_law_row_of" ["_law_thing", "_law_many_here"] (lift K sd_row_of) := ⟨_, _, ok_l_row_of F_l_row_of T D_l_whole, g_l_row_of, F_l_row_of.kp, b_l_row_of⟩
  have D_l_sizes : Dn P w K mg base 1 "_law_sizes" ["_law_many_here"] (lift K sd_sizes) := ⟨_, _, ok_l_sizes F_l_sizes T , g_l_sizes, F_l_sizes.kp, b_l_sizes⟩
  have D_l_put : Dn P w K mg base 1 "_law_put" ["_law_lengths_here", "_law_rings_here"] (liftM K sd_lput) := ⟨_, _, ok_l_put F_l_put T , g_l_put, F_l_put.kp, b_l_put⟩
  have D_l_rings : Dn P w K mg base 2 "_law_rings" ["_law_pool_here", "_law_many_here", "_law_most"] (lift K sd_lrings) := ⟨_, _, ok_l_rings F_l_rings T D_l_take D_l_sizes, g_l_rings, F_l_rings.kp, b_l_rings⟩
  have D_l_at : Dn P w K mg base 1 "_law_at" ["_law_row", "_law_at_here", "_law_thing"] (lift K sd_lat) := ⟨_, _, ok_l_at F_l_at T , g_l_at, F_l_at.kp, b_l_at⟩
  have D_l_is : Dn P w K mg base 7 "_law_is" ["_law_claim", "_law_paper", "_law_due"] (lift K sd_lis) := ⟨_, _, ok_l_is F_l_is T D_holds, g_l_is, F_l_is.kp, b_l_is⟩
  have D_l_modulus : Dn P w K mg base 2 "_law_modulus" ["_law_pool_here", "_law_many_here"] (lift K sd_lmodulus) := ⟨_, _, ok_l_modulus F_l_modulus T D_l_take D_l_primes, g_l_modulus, F_l_modulus.kp, b_l_modulus⟩
  have D_l_judged : Dn P w K mg base 3 "_law_judged" ["_law_claim", "_law_paper"] (lift K sd_ljudged) := ⟨_, _, ok_l_judged F_l_judged T D_l_is_root D_l_comes D_l_is_many D_l_row_of, g_l_judged, F_l_judged.kp, b_l_judged⟩
  have D_l_odd_rows : Dn P w K mg base 2 "_law_odd_rows" ["_law_row", "_law_pool_here"] (lift K sd_odd_rows) := ⟨_, _, ok_l_odd_rows F_l_odd_rows T D_l_take D_l_at, g_l_odd_rows, F_l_odd_rows.kp, b_l_odd_rows⟩
  have D_l_lengths : Dn P w K mg base 3 "_law_lengths" ["_law_pool_here", "_law_many_here"] (lift K sd_llengths) := ⟨_, _, ok_l_lengths F_l_lengths T D_l_take D_l_put D_l_rings, g_l_lengths, F_l_lengths.kp, b_l_lengths⟩
  have D_l_papers : Dn P w K mg base 3 "_law_papers" ["_law_modulus_here", "_law_root_here", "_law_pool_here"] (lift K sd_lpapers) := ⟨_, _, ok_l_papers F_l_papers T D_l_odd_rows, g_l_papers, F_l_papers.kp, b_l_papers⟩
  have D_l_claims : Dn P w K mg base 3 "_law_claims" ["_law_lengths_here", "_law_pool_here"] (lift K sd_lclaims) := ⟨_, _, ok_l_claims F_l_claims T D_l_odd_rows, g_l_claims, F_l_claims.kp, b_l_claims⟩
  exact ok_law F_law T D_l_cell D_l_pool D_l_root D_l_many D_l_put D_l_rings D_l_is D_l_modulus D_l_judged D_l_lengths D_l_papers D_l_claims
end K34
open PySem PySem.W PySem.Calls PyProof.Rows
set_option maxRecDepth 100000 in
set_option maxHeartbeats 0 in
theorem PySem.Challenge.cw_rosenames_k34_claims_of_away_judged_holds : PySem.Challenge.rw_rosenames_k34_claims_of_away_judged.Holds := by
  w_on; o_law
  refine HandSHeadRun.head_any (r := OpenLaw.row PySem.Challenge.rw_rosenames_k34_claims_of_away_judged) (q := view (OpenLaw.row PySem.Challenge.rw_rosenames_k34_claims_of_away_judged).prog [51]) (H := K34.hk) (ob := K34.ob) (M := 6000) (loose := K34.names) (d := HandSHeadRun.topDef (OpenLaw.row PySem.Challenge.rw_rosenames_k34_claims_of_away_judged).prog 51) (kwd := []) K34.ob_eq
    (by kernel_rfl) (fun s => by kernel_rfl) K34.run (by kernel_rfl) (by kernel_rfl) (by kernel_rfl) (by rfl) (by first | assumption | decide +kernel) (by decide +kernel) ⟨rfl, rfl, rfl, rfl, rfl, by decide +kernel⟩ ?hw ?hc
  case hw => w_witness2
  case hc =>
    refine L2.walk_ofE (l := PySem.Challenge.rw_rosenames_k34_claims_of_away_judged) (n := 63) (k := 9) (x := "_law_script") (CX := L2.CX0) rfl (by decide) (by kernel_rfl) ⟨rfl, by decide, by decide⟩ ?F (fun _ _ _ _ z => z)
    intro w mg fa h Y G hmg0
    obtain ⟨K, KX, c, cx⟩ := Y
    have hmg : mg ("law" : PySem.Str) = some (.ref fa) := by
      have e : (HandSHeadRun.topDef (OpenLaw.row PySem.Challenge.rw_rosenames_k34_claims_of_away_judged).prog 51).name = ("law" : PySem.Str) := by kernel_rfl
      rw [← e]
      exact hmg0
    obtain ⟨fd, hb, hF⟩ := K34.facts (P := (PySem.Challenge.rw_rosenames_k34_claims_of_away_judged).prog) (w := w) KX G hmg c cx
    exact ⟨K, fd, K34.sp_law K, KX, hb, fun H a ns hl _ hS => ⟨a, ns, rfl, hS, hl, fun _ => rfl⟩, hF⟩

