import PyProof.Rows.All
import Wide.All
import OpenK.AllK
import Wide.FinOn
import KE.KStateDown
import HandS.ForMost
import HandS.Exc
import HandS.Defaults
import HandS.MakeKw
import HandS.IsInst
import HandS.Wide
import HandS.WideBits
import HandS.Evl
import HandS.WordsExc
import HandS.Head0
import HandS.Head1
import HandS.Head2
import HandS.HeadEnd
import HandS.HeadHook1
import HandS.HeadHook2
import PySem.Challenge.RW_rosenames_k01_turns_reckoned
set_option Elab.async false
set_option linter.all false
set_option maxRecDepth 100000
set_option maxHeartbeats 0
namespace Tn
def low (t u : Int) : Int × Int := (t / (Int.gcd t u : Int), u / (Int.gcd t u : Int))
def part (t u : Int) : Int × Int := low (t % u) u
def sgn (t u : Int) : Int × Int := if u < 0 then part (-t) (-u) else part t u
def on (a b : Int × Int) : Int × Int := part (a.1 * b.2 + b.1 * a.2) (a.2 * b.2)
def off (a b : Int × Int) : Int × Int := part (a.1 * b.2 - b.1 * a.2) (a.2 * b.2)
structure Can (a : Int × Int) : Prop where
  pos : 0 < a.2
  nn : 0 ≤ a.1
  lt : a.1 < a.2
  cop : Int.gcd a.1 a.2 = 1
theorem gcd_pos {t u : Int} (hu : 0 < u) : (0 : Int) < (Int.gcd t u : Int) := by
  have : 0 < Int.gcd t u := Int.gcd_pos_of_ne_zero_right _ (by omega)
  omega
theorem low_fst {t u : Int} : (low t u).1 * (Int.gcd t u : Int) = t := Int.ediv_mul_cancel (Int.gcd_dvd_left ..)
theorem low_snd {t u : Int} : (low t u).2 * (Int.gcd t u : Int) = u := Int.ediv_mul_cancel (Int.gcd_dvd_right ..)
theorem low_can {t u : Int} (h0 : 0 ≤ t) (h1 : t < u) : Can (low t u) := by
  have hu : 0 < u := by omega
  have g := gcd_pos (t := t) hu
  have e1 := low_fst (t := t) (u := u)
  have e2 := low_snd (t := t) (u := u)
  refine ⟨?_, ?_, ?_, ?_⟩
  · exact Int.ediv_pos_of_pos_of_dvd hu (by omega) (Int.gcd_dvd_right ..)
  · exact Int.ediv_nonneg h0 (by omega)
  · refine Int.lt_of_mul_lt_mul_right (a := (Int.gcd t u : Int)) ?_ (by omega)
    rw [e1, e2]
    exact h1
  · show Int.gcd (t / (Int.gcd t u : Int)) (u / (Int.gcd t u : Int)) = 1
    exact Int.gcd_ediv_gcd_ediv_gcd_of_ne_zero_right (by omega)
theorem part_can {t u : Int} (hu : 0 < u) : Can (part t u) := low_can (Int.emod_nonneg _ (by omega)) (Int.emod_lt_of_pos _ hu)
theorem low_le {t u : Int} (hu : 0 < u) : (low t u).2 ≤ u := Int.ediv_le_self _ (by omega)
theorem part_le {t u : Int} (hu : 0 < u) : (part t u).2 ≤ u := low_le hu
theorem part_rel {t u : Int} (hu : 0 < u) : ∃ k, t * (part t u).2 - (part t u).1 * u = k * (u * (part t u).2) := by
  have e1 : (part t u).1 * (Int.gcd (t % u) u : Int) = t % u := low_fst
  have e2 : (part t u).2 * (Int.gcd (t % u) u : Int) = u := low_snd
  have e3 := Int.emod_add_mul_ediv t u
  refine ⟨t / u, ?_⟩
  generalize part t u = p at *
  obtain ⟨x, y⟩ := p
  dsimp only at *
  generalize (Int.gcd (t % u) u : Int) = g at *
  generalize t % u = r at *
  generalize t / u = q at *
  subst e1
  grind
theorem can_uniq {a b : Int × Int} (ha : Can a) (hb : Can b) {k : Int} (h : a.1 * b.2 - b.1 * a.2 = k * (a.2 * b.2)) : a = b := by
  obtain ⟨x, y⟩ := a
  obtain ⟨z, w⟩ := b
  have a1 : 0 < y := ha.pos
  have a2 : 0 ≤ x := ha.nn
  have a3 : x < y := ha.lt
  have b1 : 0 < w := hb.pos
  have b2 : 0 ≤ z := hb.nn
  have b3 : z < w := hb.lt
  have ca : Int.gcd x y = 1 := ha.cop
  have cb : Int.gcd z w = 1 := hb.cop
  have h : x * w - z * y = k * (y * w) := h
  have p1 : 0 ≤ x * w := Int.mul_nonneg a2 (by omega)
  have p2 : 0 ≤ z * y := Int.mul_nonneg b2 (by omega)
  have p3 : x * w < y * w := Int.mul_lt_mul_of_pos_right a3 b1
  have p4 : z * y < w * y := Int.mul_lt_mul_of_pos_right b3 a1
  have p5 : 0 < y * w := Int.mul_pos a1 b1
  rw [Int.mul_comm w y] at p4
  have k0 : k = 0 := by
    generalize y * w = m at *
    by_cases q : 1 ≤ k
    · have : m ≤ k * m := by
        have := Int.mul_le_mul_of_nonneg_right q (show 0 ≤ m by omega)
        omega
      omega
    · by_cases q2 : k ≤ -1
      · have : k * m ≤ -m := by
          have := Int.mul_le_mul_of_nonneg_right q2 (show 0 ≤ m by omega)
          omega
        omega
      · omega
  subst k0
  have e : x * w = z * y := by omega
  have d1 : y ∣ w := by
    have q : y ∣ x * w := ⟨z, by grind⟩
    have q2 := Int.dvd_gcd_mul_iff_dvd_mul.mpr q
    rw [Int.gcd_comm, ca] at q2
    simpa using q2
  have d2 : w ∣ y := by
    have q : w ∣ z * y := ⟨x, by grind⟩
    have q2 := Int.dvd_gcd_mul_iff_dvd_mul.mpr q
    rw [Int.gcd_comm, cb] at q2
    simpa using q2
  have e2 : y = w := Int.le_antisymm (Int.le_of_dvd b1 d1) (Int.le_of_dvd a1 d2)
  subst e2
  have : x = z := Int.eq_of_mul_eq_mul_right (by omega) e
  rw [this]
theorem part_eq {t u : Int} {b : Int × Int} (hu : 0 < u) (hb : Can b) {k : Int} (h : t * b.2 - b.1 * u = k * (u * b.2)) : part t u = b := by
  obtain ⟨j, e⟩ := part_rel (t := t) hu
  refine can_uniq (k := k - j) (part_can hu) hb ?_
  generalize part t u = p at *
  refine Int.eq_of_mul_eq_mul_left (a := u) (by omega) ?_
  grind
theorem part_self {a : Int × Int} (ha : Can a) : part a.1 a.2 = a := part_eq (k := 0) ha.pos ha (by grind)
theorem can01 : Can (0, 1) := ⟨by decide, by decide, by decide, by decide⟩
theorem on_can {a b : Int × Int} (ha : Can a) (hb : Can b) : Can (on a b) := part_can (Int.mul_pos ha.pos hb.pos)
theorem off_can {a b : Int × Int} (ha : Can a) (hb : Can b) : Can (off a b) := part_can (Int.mul_pos ha.pos hb.pos)
theorem sgn_can {t u : Int} (hu : u ≠ 0) : Can (sgn t u) := by
  unfold sgn
  by_cases h : u < 0
  · rw [if_pos h]
    exact part_can (by omega)
  · rw [if_neg h]
    exact part_can (by omega)
theorem sgn_pos {t u : Int} (hu : 0 < u) : sgn t u = part t u := if_neg (by omega)
theorem sgn_le {t u : Int} (hu : u ≠ 0) : (sgn t u).2 ≤ (u.natAbs : Int) := by
  unfold sgn
  by_cases h : u < 0
  · rw [if_pos h]
    have := part_le (t := -t) (u := -u) (by omega)
    omega
  · rw [if_neg h]
    have := part_le (t := t) (u := u) (by omega)
    omega
/-- added and taken off again -/
theorem on_off {a b : Int × Int} (ha : Can a) (hb : Can b) : off (on a b) b = a := by
  obtain ⟨j, e⟩ := part_rel (t := a.1 * b.2 + b.1 * a.2) (u := a.2 * b.2) (Int.mul_pos ha.pos hb.pos)
  have c := on_can ha hb
  have e : (a.1 * b.2 + b.1 * a.2) * (on a b).2 - (on a b).1 * (a.2 * b.2) = j * (a.2 * b.2 * (on a b).2) := e
  generalize on a b = p at *
  refine part_eq (k := -j) (Int.mul_pos c.pos hb.pos) ha ?_
  have := ha.pos
  have := hb.pos
  refine Int.eq_of_mul_eq_mul_left (a := b.2) (by omega) ?_
  grind
theorem on_comm {a b : Int × Int} : on a b = on b a := by
  unfold on
  rw [Int.add_comm, Int.mul_comm a.2 b.2]
theorem on_off' {a b : Int × Int} (ha : Can a) (hb : Can b) : off (on a b) a = b := by
  rw [on_comm]
  exact on_off hb ha
theorem off_self {a : Int × Int} (ha : Can a) : off a a = (0, 1) := part_eq (k := 0) (Int.mul_pos ha.pos ha.pos) can01 (by grind)
def half : Int × Int := (1, 2)
theorem half_can : Can half := ⟨by decide, by decide, by decide, by decide⟩
theorem on_half2 {a : Int × Int} (ha : Can a) : on (on a half) half = a := by
  obtain ⟨j, e⟩ := part_rel (t := a.1 * 2 + 1 * a.2) (u := a.2 * 2) (by have := ha.pos; omega)
  have c := on_can ha half_can
  have e : (a.1 * 2 + 1 * a.2) * (on a half).2 - (on a half).1 * (a.2 * 2) = j * (a.2 * 2 * (on a half).2) := e
  generalize on a half = p at *
  have h1 := ha.pos
  have h2 := c.pos
  refine part_eq (t := p.1 * 2 + 1 * p.2) (u := p.2 * 2) (k := 1 - j) (by omega) ha ?_
  grind
theorem part_whole (t : Int) : part t 1 = (0, 1) := part_eq (k := t) (by decide) can01 (by grind)
theorem sgn_whole (t : Int) : sgn t 1 = (0, 1) := by
  rw [sgn_pos (by decide)]
  exact part_whole t
theorem part_zero {u : Int} (hu : 0 < u) : part 0 u = (0, 1) := part_eq (k := 0) hu can01 (by grind)
theorem gcd_step (x y : Int) (hx : 0 ≤ x) (hy : 0 < y) : Int.gcd y (x % y) = Int.gcd x y := by
  have h : Int.gcd (x % y) y = Int.gcd x y := by
    unfold Int.gcd
    obtain ⟨a, rfl⟩ := Int.eq_ofNat_of_zero_le hx
    obtain ⟨b, rfl⟩ := Int.eq_ofNat_of_zero_le (Int.le_of_lt hy)
    show Nat.gcd (((a : Int) % (b : Int)).natAbs) b = Nat.gcd a b
    have : ((a : Int) % (b : Int)).natAbs = a % b := by omega
    rw [this, Nat.gcd_comm a b, Nat.gcd_rec b a]
  rw [Int.gcd_comm, h]
/-- how far apart, the shorter way -/
def apart (a b : Int × Int) : Int × Int := if (off a b).2 < 2 * (off a b).1 then off b a else off a b
/-- taken off the other way about -/
theorem off_back {a b : Int × Int} (ha : Can a) (hb : Can b) : off b a = if (off a b).1 = 0 then (0, 1) else ((off a b).2 - (off a b).1, (off a b).2) := by
  obtain ⟨j, e⟩ := part_rel (t := a.1 * b.2 - b.1 * a.2) (u := a.2 * b.2) (Int.mul_pos ha.pos hb.pos)
  have c := off_can ha hb
  have e : (a.1 * b.2 - b.1 * a.2) * (off a b).2 - (off a b).1 * (a.2 * b.2) = j * (a.2 * b.2 * (off a b).2) := e
  have up : 0 < b.2 * a.2 := Int.mul_pos hb.pos ha.pos
  generalize off a b = w at *
  obtain ⟨w1, w2⟩ := w
  have c1 : 0 < w2 := c.pos
  have c2 : 0 ≤ w1 := c.nn
  have c3 : w1 < w2 := c.lt
  have c4 : Int.gcd w1 w2 = 1 := c.cop
  dsimp only at e ⊢
  by_cases h : w1 = 0
  · subst h
    rw [if_pos rfl]
    have h2 : w2 = 1 := by
      rw [Int.gcd_zero_left] at c4
      omega
    subst h2
    refine part_eq (k := -j) up can01 ?_
    dsimp only
    grind
  · rw [if_neg h]
    refine part_eq (k := -j - 1) up ⟨c1, by show 0 ≤ w2 - w1; omega, by show w2 - w1 < w2; omega, ?_⟩ ?_
    · show Int.gcd (w2 - w1) w2 = 1
      rw [← c4, Int.gcd_comm, Int.gcd_comm w1 w2, ← Int.gcd_neg (a := w2) (b := w1), ← Int.gcd_add_self_right (m := w2) (n := -w1)]
      congr 1
      omega
    · dsimp only
      grind
theorem apart_law {a b : Int × Int} (ha : Can a) (hb : Can b) : (if (off b a).1 * (off a b).2 < (off a b).1 * (off b a).2 then off b a else off a b) = apart a b := by
  have c := off_can ha hb
  have e := off_back ha hb
  unfold apart
  by_cases h : (off a b).1 = 0
  · rw [if_pos h] at e
    have c1 := c.pos
    rw [e, h, if_neg (by show ¬ (0 * (off a b).2 < 0 * 1); rw [Int.zero_mul, Int.zero_mul]; omega), if_neg (by omega)]
  · rw [if_neg h] at e
    have c1 := c.pos
    have q : ((off b a).1 * (off a b).2 < (off a b).1 * (off b a).2) ↔ (off a b).2 < 2 * (off a b).1 := by
      rw [e]
      show (((off a b).2 - (off a b).1) * (off a b).2 < (off a b).1 * (off a b).2) ↔ _
      constructor
      · intro h
        have := Int.lt_of_mul_lt_mul_right h (by omega)
        omega
      · intro h
        exact Int.mul_lt_mul_of_pos_right (by omega) c1
    by_cases h2 : (off a b).2 < 2 * (off a b).1
    · rw [if_pos h2, if_pos (q.mpr h2)]
    · rw [if_neg h2, if_neg (fun z => h2 (q.mp z))]
end Tn
/-! The head's Hook with one Bool more; a def by its name; what an own class needs for isinstance. -/
namespace L2
open PySem PySem.Spec PyProof.Rows
/-- what the module's names reach, and the cell of the statics -/
def asN (g : Addr → Option Obj) (n : Nat) : List Addr := cStatics :: He.asD g n
def hookM (n : Nat) (fa : List He.Fa) (fn : List He.DefD) (ex : PySem.W.Frag → Bool) : PySem.W.Hook where
  α := He.AlD × Bool
  obs := fun s => (He.obsD fa fn (He.frG s.heap.get? (asN s.heap.get? n)), ex (He.frG s.heap.get? (asN s.heap.get? n)))
  val := fun _ => (He.valD fn, true)
  says := fun _ h => ∃ K : PySem.W.Frag, K.In h ∧ He.SaysD fa fn K ∧ ex K = true
  of := fun _ _ e => ⟨_, He.frG_in, congrArg (fun z : He.AlD × Bool => z.1) e, congrArg (fun z : He.AlD × Bool => z.2) e⟩
  keeps := fun _ _ _ ⟨K, hK, c⟩ k => ⟨K, PySem.W.Frag.In.keeps hK k, c⟩
/-- isinstance of an own class's instances -/
structure IsC (K : PySem.W.Frag) (C : Addr) : Prop where
  ha : PySem.W.findIn K (.ref C) "__class__" = some (some (.builtin "object.__class__"))
  hn : PySem.W.specialIn K (.builtin "object.__class__") "__get__" = some (some (.builtin "getset_descriptor.__get__"))
  htk : PySem.W.takesIn K (.builtin "object.__class__") = some true
  hm : PySem.W.mroIn K C (.type "object") = some true
def tyB (K : PySem.W.Frag) (x : Str) : Bool :=
  He.eqO (PySem.W.findIn K (.ref (He.ga K x)) "__class__") (some (some (.builtin "object.__class__"))) &&
  (He.eqO (PySem.W.specialIn K (.builtin "object.__class__") "__get__") (some (some (.builtin "getset_descriptor.__get__"))) &&
  (decide (PySem.W.takesIn K (.builtin "object.__class__") = some true) && decide (PySem.W.mroIn K (He.ga K x) (.type "object") = some true)))
theorem tyB_ok {K : PySem.W.Frag} {x : Str} (h : tyB K x = true) : IsC K (He.ga K x) := by
  obtain ⟨h1, h⟩ := He.ba h
  obtain ⟨h2, h⟩ := He.ba h
  obtain ⟨h3, h4⟩ := He.ba h
  exact ⟨He.eqO_ok h1, He.eqO_ok h2, of_decide_eq_true h3, of_decide_eq_true h4⟩
/-- a def of the module by its name: where it stands, what it promises, how it binds -/
structure Dn (P : Program) (w : World) (K : PySem.W.Frag) (mg : Str → Option Value) (base : Heap) (k : Nat) (x : Str) (ps : List Str) (sp : Sp) : Prop where
  ex : ∃ (f : Addr) (fd : FuncData), FnOk P w K mg base CX0 k f fd ps sp ∧ mg x = some (.ref f) ∧ PySem.W.keepIn K (.ref f) = true ∧ Binds K fd ps []
section
variable {X : Cx} {k : Nat} {x : Str} {ps : List Str} {sp : Sp} {e : Expr} {es : List Expr} {t : TA} {p pos : Pos}
theorem pe_cd (D : Dn X.prog X.w X.K X.mg X.base k x ps sp) (hr : Room k X.A) (hg : Gl X x) (ha : PA X (e :: es) t) (hdb : (x == ("__debug__" : Str)) = false := by decide)
    (he : starEach (e :: es) X.env = (false, eval e X.env) :: starEach es X.env := by rfl) (hpl : (backTo pos (starEach es X.env)).any (·.1) = false := by rfl) :
    PE X (.Call (.Name x p) (e :: es) [] pos) (tCall sp [] E0 t) := by
  obtain ⟨f, fd, F, m, kp, b⟩ := D.ex
  exact pe_call F hr hg m kp b .nil pass0 ha hdb he hpl
theorem pe_cd0 (D : Dn X.prog X.w X.K X.mg X.base k x ps sp) (hr : Room k X.A) (hg : Gl X x) (hdb : (x == ("__debug__" : Str)) = false := by decide) :
    PE X (.Call (.Name x p) [] [] pos) (tCall sp [] E0 tNil) := by
  obtain ⟨f, fd, F, m, kp, b⟩ := D.ex
  exact pe_call0 F hr hg m kp b .nil pass0 hdb
end
end L2
/-! More of what evaluates to what (heaps that only grow), and heaps that change at one place. -/
namespace L2
open PySem PySem.Spec PyProof.Rows Evl
/-- all but what stands at p is as it was -/
def But (p : Addr) (H H' : Hp) : Prop := ∀ b o, b ≠ p → H b = some o → H' b = some o
theorem But.refl {p : Addr} (H : Hp) : But p H H := fun _ _ _ h => h
theorem But.trans {p : Addr} {H H1 H2 : Hp} (a : But p H H1) (b : But p H1 H2) : But p H H2 := fun c o n h => b c o n (a c o n h)
theorem But.ex {p : Addr} {H H' : Hp} (e : Ex H H') : But p H H' := fun b o _ h => e b o h
theorem But.upd {p : Addr} {H : Hp} {o : HO} : But p H (upd H p o) := fun b u n h => by
  rw [upd_ne n]
  exact h
/-- what p is not known to H: then it is an extension -/
theorem But.new {p : Addr} {H H' : Hp} (e : But p H H') (h : H p = none) : Ex H H' := fun b o q => e b o (ne_of_none q h) q
section
variable {K : PySem.W.Frag} {σ : L2.St} {H H' : Hp} {ta tb te : TE} {x y z v : V}
theorem ev_fld {a C dx : Addr} {fs : List (Str × V)} {f : Str} (h : Ev ta σ H (.ref a)) (ho : H a = some (.ins C dx fs)) (hc : Cls K C) (hn : NoAttr K C f) (hl : fs.lookup f = some v) : Ev (tFld K ta f) σ H v :=
  fun H1 e Q q => h H1 e _ fun H2 e2 => ⟨a, C, dx, fs, v, rfl, (e.trans e2) _ _ ho, hc, hn, hl, q H2 e2⟩
theorem rc_isi {x c : V} {t u : Value} {b : Bool} (hc : ClsV c u) (hx : ∀ H1, Ex H H1 → TyX K H1 x t) (hk : PySem.W.kitOne K t u = some b) : RC (rIsi K) [x, c] H (.bl b) :=
  fun H1 e Q q => ⟨x, c, t, u, b, rfl, hc, hx H1 e, hk, q H1 (Ex.refl _)⟩
theorem rc_isiI {i : Int} : RC (rIsi K) [.int i, .ty "int"] H (.bl true) := rc_isi (.ty "int") (fun _ _ => .base (.int i)) (kit_ty (by decide +kernel))
theorem rc_isiB {i : Int} : RC (rIsi K) [.int i, .ty "bool"] H (.bl false) := rc_isi (.ty "bool") (fun _ _ => .base (.int i)) (kit_ty (by decide +kernel))
theorem kit_self {t : Value} : PySem.W.kitOne K t t = some true := by
  unfold PySem.W.kitOne
  rw [if_pos (beq_self_eq_true t)]
theorem rc_isiC {a C dx : Addr} {fs : List (Str × V)} (ho : H a = some (.ins C dx fs)) (hc : Cls K C) (hi : IsC K C) : RC (rIsi K) [.ref a, .ref C] H (.bl true) :=
  rc_isi (.own C) (fun _ e => .base (.ins (e _ _ ho) hc hi.ha hi.hn hi.htk hi.hm)) kit_self
def rAbs : List V → Hp → VK → Prop := fun xs H Q => ∃ i, xs = [.int i] ∧ Q (.int (if i < 0 then -i else i)) H
theorem rc_abs {i : Int} : RC (fun xs H Q => ∃ i, xs = [.int i] ∧ Q (.int (if i < 0 then -i else i)) H) [.int i] H (.int (i.natAbs : Int)) := fun H1 _ Q q => ⟨i, rfl, by
  have e : (if i < 0 then -i else i) = (i.natAbs : Int) := by
    by_cases h : i < 0
    · rw [if_pos h]
      omega
    · rw [if_neg h]
      omega
  rw [e]
  exact q H1 (Ex.refl _)⟩
/-- tuples' items by a written place -/
theorem ev_ixT {p : Addr} {xs : List V} {j : Nat} (h : Ev ta σ H (.ref p)) (hs : H p = some (.tup xs)) (hj : xs[j]? = some v) : Ev (tOp (rIxT K) ta (tC (.int (j : Int)))) σ H v :=
  ev_op h ev_c (rv_ixT (st_of hs) (atI_nat hj))
theorem ev_mulW {i j : Int} {n m : Nat} (ha : Ev ta σ H (.int i)) (hb : Ev tb σ H (.int j)) (hi : i.natAbs < 2 ^ n) (hj : j.natAbs < 2 ^ m) (h0 : 0 < n := by decide) (h1 : 0 < m := by decide) (h : n + m ≤ 1000000 := by decide) :
    Ev (tOp (rI CMulW fun i j => .int (i * j)) ta tb) σ H (.int (i * j)) := ev_op ha hb (rv_I (wide_mul hi hj h0 h1 h))
theorem ev_mul {i j : Int} (ha : Ev ta σ H (.int i)) (hb : Ev tb σ H (.int j)) (h : CMul i j) : Ev (tOp (rI CMul fun i j => .int (i * j)) ta tb) σ H (.int (i * j)) := ev_op ha hb (rv_I h)
theorem ev_add {i j : Int} (ha : Ev ta σ H (.int i)) (hb : Ev tb σ H (.int j)) : Ev (tOp (rI0 fun i j => .int (i + j)) ta tb) σ H (.int (i + j)) := ev_op ha hb rv_I0
theorem ev_sub {i j : Int} (ha : Ev ta σ H (.int i)) (hb : Ev tb σ H (.int j)) : Ev (tOp (rI0 fun i j => .int (i - j)) ta tb) σ H (.int (i - j)) := ev_op ha hb rv_I0
theorem ev_mod {i j : Int} (ha : Ev ta σ H (.int i)) (hb : Ev tb σ H (.int j)) (h : 0 < j) : Ev (tOp (rI (fun _ j => 0 < j) fun i j => .int (i % j)) ta tb) σ H (.int (i % j)) := ev_op ha hb (rv_I h)
theorem ev_fdivW {i j : Int} {n : Nat} (ha : Ev ta σ H (.int i)) (hb : Ev tb σ H (.int j)) (h : 0 < j) (hj : j.natAbs < 2 ^ n) (h0 : 0 < n := by decide) (h1 : n ≤ 9000 := by decide) : Ev (tOp (rI CDivW fun i j => .int (i / j)) ta tb) σ H (.int (i / j)) :=
  ev_op ha hb (rv_I (wide_div h hj h0 h1))
theorem ev_lt {i j : Int} (ha : Ev ta σ H (.int i)) (hb : Ev tb σ H (.int j)) : Ev (tOp (rI0 fun i j => .bl (decide (i < j))) ta tb) σ H (.bl (decide (i < j))) := ev_op ha hb rv_I0
theorem ev_gt {i j : Int} (ha : Ev ta σ H (.int i)) (hb : Ev tb σ H (.int j)) : Ev (tOp (rI0 fun i j => .bl (decide (j < i))) ta tb) σ H (.bl (decide (j < i))) := ev_op ha hb rv_I0
theorem ev_ge {i j : Int} (ha : Ev ta σ H (.int i)) (hb : Ev tb σ H (.int j)) : Ev (tOp (rI0 fun i j => .bl (decide (j ≤ i))) ta tb) σ H (.bl (decide (j ≤ i))) := ev_op ha hb rv_I0
theorem ev_eqI {i j : Int} (ha : Ev ta σ H (.int i)) (hb : Ev tb σ H (.int j)) : Ev (tOp rEq ta tb) σ H (.bl (decide (i = j))) := by
  have h := ev_op ha hb (rv_eq (x := .int i) (y := .int j) rfl)
  have e : decide (V.int i = V.int j) = decide (i = j) := by
    rw [Bool.eq_iff_iff]
    simp
  rw [e] at h
  exact h
theorem ev_neI {i j : Int} (ha : Ev ta σ H (.int i)) (hb : Ev tb σ H (.int j)) : Ev (tOp rNe ta tb) σ H (.bl (!decide (i = j))) := by
  have h := ev_op ha hb (rv_ne (x := .int i) (y := .int j) rfl)
  have e : decide (V.int i = V.int j) = decide (i = j) := by
    rw [Bool.eq_iff_iff]
    simp
  rw [e] at h
  exact h
theorem pow_big {n : Nat} {i : Int} {m : Nat} (h : i.natAbs < 2 ^ n) (hm : n ≤ m) : i.natAbs < 2 ^ m := Nat.lt_of_lt_of_le h (Nat.pow_le_pow_right (by decide) hm)
theorem ev_neg {i : Int} (ha : Ev ta σ H (.int i)) : Ev (tUn (rU fun i => .int (-i)) ta) σ H (.int (-i)) := ev_un ha ru_neg
end
end L2
/-! Readings opened one step. -/
namespace L2
open PySem PySem.Spec PyProof.Rows Evl
section
variable {σ : L2.St} {H : Hp} {D : Ends} {te ta tb : TE} {tA : TA} {t u : TS} {tt tu : TT} {Q : VK} {QT : Bool → Hp → Prop} {QA : List V → Hp → Prop} {vs xs dvs : List V} {v : V} {b : Bool}
theorem x_ret (h : te σ H D.rt) : tRet te D σ H := h
theorem x_seq (h : t { D with nx := u D } σ H) : tSeq t u D σ H := h
theorem x_asg {g : TG} (h : te σ H fun x H1 => g x σ H1 D.nx) : tAsg te g D σ H := h
theorem x_set {i : Nat} (h : te σ H fun x H1 => D.nx (σ.set i (some x)) H1) : tAsg te (gName i) D σ H := h
theorem x_drop (h : te σ H fun _ H1 => D.nx σ H1) : tDrop te D σ H := h
theorem x_par {i j : Nat} (h : tA σ H fun vs H1 => ∃ v w, vs = [v, w] ∧ D.nx ((σ.set i (some v)).set j (some w)) H1) : tPar i j tA D σ H := h
theorem x_op {r : R2} (h : ta σ H fun x H1 => tb σ H1 fun y H2 => r x y H2 Q) : tOp r ta tb σ H Q := h
theorem x_cb {r : List V → Hp → VK → Prop} (h : tA σ H fun vs H1 => r vs H1 Q) : tCB r tA σ H Q := h
theorem x_call {sp : Sp} {E : XK} (h : tA σ H fun vs H1 => sp (vs ++ dvs) H1 Q E) : tCall sp dvs E tA σ H Q := h
theorem x_cons {tr : TA} (h : ta σ H fun x H1 => tr σ H1 fun xs H2 => QA (x :: xs) H2) : tCons ta tr σ H QA := h
theorem x_nil (h : QA [] H) : tNil σ H QA := h
theorem x_if (h : tt σ H fun b H1 => if b = true then t D σ H1 else u D σ H1) : tIfS tt t u D σ H := h
theorem x_B (h : te σ H fun x H1 => ∃ c, x = .bl c ∧ QT c H1) : tB te σ H QT := h
theorem x_test (h : te σ H fun x H1 => ∃ c, x = .bl c ∧ QT c H1) : tTest te σ H QT := h
theorem x_not (h : tt σ H fun c H1 => QT (!c) H1) : tNot tt σ H QT := h
theorem x_or (h : tt σ H fun c H1 => if c = true then QT true H1 else tu σ H1 QT) : tOr tt tu σ H QT := h
theorem x_and (h : tt σ H fun c H1 => if c = true then tu σ H1 QT else QT false H1) : tAnd tt tu σ H QT := h
theorem x_meth {C : Addr} {m : Str} {sp : Sp} {E : XK} (h : ta σ H fun x H1 => ∃ a dx fs, x = .ref a ∧ H1 a = some (.ins C dx fs) ∧ fs.lookup m = none ∧ tA σ H1 fun vs H2 => sp (x :: (vs ++ dvs)) H2 Q E) : tMeth C m sp dvs E ta tA σ H Q := h
theorem x_lst (h : tA σ H fun xs H1 => xs.length ≤ sizeLine ∧ ∀ p, H1 p = none → Q (.ref p) (upd H1 p (.lst xs))) : tLst tA σ H Q := h
theorem x_tup (h : tA σ H fun xs H1 => xs.length ≤ sizeLine ∧ ∀ p, H1 p = none → Q (.ref p) (upd H1 p (.tup xs))) : tTup tA σ H Q := h
theorem x_c (h : Q v H) : tC v σ H Q := h
theorem x_var {i : Nat} (e : σ[i]? = some (some v)) (h : Q v H) : tVar i σ H Q := ⟨v, e, h⟩
theorem x_while {W : Nat → St → Hp → Prop} (m : Nat) (w0 : W m σ H) (h : ∀ m σ H, W m σ H → tt σ H fun b H1 => if b = true then ∃ N : St → Hp → Prop, (∀ σ' H', N σ' H' → ∃ m', m' < m ∧ W m' σ' H') ∧ t { D with nx := N, ct := N, bk := D.nx } σ H1 else D.nx σ H1) : tWhile tt t D σ H := ⟨W, ⟨m, w0⟩, h⟩
theorem Evl.Ev.go (h : Ev te σ H v) (k : ∀ H1, Ex H H1 → Q v H1) : te σ H Q := h H (Ex.refl _) _ k
theorem Evl.EvT.go (h : EvT tt σ H b) (k : ∀ H1, Ex H H1 → QT b H1) : tt σ H QT := h H (Ex.refl _) _ k
theorem Evl.EvA.go (h : EvA tA σ H vs) (k : ∀ H1, Ex H H1 → QA vs H1) : tA σ H QA := h H (Ex.refl _) _ k
theorem Evl.EvU.go (h : EvU te σ H xs) (k : ∀ p H1, H p = none → Ex H H1 → H1 p = some (.tup xs) → Q (.ref p) H1) : te σ H Q := h H (Ex.refl _) _ k
theorem Evl.EvL.go (h : EvL te σ H xs) (k : ∀ p H1, H p = none → Ex H H1 → H1 p = some (.lst xs) → Q (.ref p) H1) : te σ H Q := h H (Ex.refl _) _ k
end
end L2
/-! The same with something behind. -/
namespace L2
open PySem PySem.Spec PyProof.Rows Evl
section
variable {σ : L2.St} {H : Hp} {D : Ends} {te : TE} {tA : TA} {t u tz : TS} {tt : TT}
theorem q_par {i j : Nat} (h : tA σ H fun vs H1 => ∃ v w, vs = [v, w] ∧ tz D ((σ.set i (some v)).set j (some w)) H1) : tSeq (tPar i j tA) tz D σ H := h
theorem q_set {i : Nat} (h : te σ H fun x H1 => tz D (σ.set i (some x)) H1) : tSeq (tAsg te (gName i)) tz D σ H := h
theorem q_asgX {g : TG} (h : te σ H fun x H1 => g x σ H1 (tz D)) : tSeq (tAsg te g) tz D σ H := h
theorem q_dropX (h : te σ H fun _ H1 => tz D σ H1) : tSeq (tDrop te) tz D σ H := h
theorem q_ifX (h : tt σ H fun b H1 => if b = true then t { D with nx := tz D } σ H1 else u { D with nx := tz D } σ H1) : tSeq (tIfS tt t u) tz D σ H := h
end
end L2

namespace K01
open PySem PySem.Spec PyProof.Rows L2
def topS (i : Nat) : Stmt := PySem.Challenge.pw_rosenames_k01_turns_reckoned.main.body.getD i (.Pass ⟨0, 0, 0, 0⟩)
abbrev s_is_whole : Stmt := topS 6
theorem sc_is_whole : FnScope ["thing"] ["thing"] (defScope s_is_whole) := ⟨rfl, rfl, rfl, by decide +kernel, rfl, by decide +kernel, by decide +kernel⟩
abbrev s_common : Stmt := topS 7
theorem sc_common : FnScope ["one", "other"] ["one", "other"] (defScope s_common) := ⟨rfl, rfl, rfl, by decide +kernel, rfl, by decide +kernel, by decide +kernel⟩
abbrev s_must_be_turn : Stmt := topS 11
theorem sc_must_be_turn : FnScope ["thing"] ["thing"] (defScope s_must_be_turn) := ⟨rfl, rfl, rfl, by decide +kernel, rfl, by decide +kernel, by decide +kernel⟩
abbrev s_Turn_init : Stmt := inClass (topS 10) 0
theorem sc_Turn_init : FnScope ["self", "top", "bottom", "signed", "size", "part", "shared"] ["self", "top", "bottom"] (defScope s_Turn_init) := ⟨rfl, rfl, rfl, by decide +kernel, rfl, by decide +kernel, by decide +kernel⟩
abbrev s_Turn_plus : Stmt := inClass (topS 10) 4
theorem sc_Turn_plus : FnScope ["self", "other"] ["self", "other"] (defScope s_Turn_plus) := ⟨rfl, rfl, rfl, by decide +kernel, rfl, by decide +kernel, by decide +kernel⟩
abbrev s_Turn_minus : Stmt := inClass (topS 10) 5
theorem sc_Turn_minus : FnScope ["self", "other"] ["self", "other"] (defScope s_Turn_minus) := ⟨rfl, rfl, rfl, by decide +kernel, rfl, by decide +kernel, by decide +kernel⟩
abbrev s_Turn_times : Stmt := inClass (topS 10) 6
theorem sc_Turn_times : FnScope ["self", "many"] ["self", "many"] (defScope s_Turn_times) := ⟨rfl, rfl, rfl, by decide +kernel, rfl, by decide +kernel, by decide +kernel⟩
abbrev s_Turn_opposite : Stmt := inClass (topS 10) 7
theorem sc_Turn_opposite : FnScope ["self"] ["self"] (defScope s_Turn_opposite) := ⟨rfl, rfl, rfl, by decide +kernel, rfl, by decide +kernel, by decide +kernel⟩
abbrev s_l_cell : Stmt := topS 13
theorem sc_l_cell : FnScope ["_law_script", "_law_k", "_law_state", "_law_cell_here"] ["_law_script", "_law_k"] (defScope s_l_cell) := ⟨rfl, rfl, rfl, by decide +kernel, rfl, by decide +kernel, by decide +kernel⟩
abbrev s_l_pool : Stmt := topS 14
theorem sc_l_pool : FnScope ["_law_cell_here", "_law_digits"] ["_law_cell_here"] (defScope s_l_pool) := ⟨rfl, rfl, rfl, by decide +kernel, rfl, by decide +kernel, by decide +kernel⟩
abbrev s_l_take : Stmt := topS 15
theorem sc_l_take : FnScope ["_law_pool_here", "_law_many", "_law_state", "_law_digit"] ["_law_pool_here", "_law_many"] (defScope s_l_take) := ⟨rfl, rfl, rfl, by decide +kernel, rfl, by decide +kernel, by decide +kernel⟩
abbrev s_l_low : Stmt := topS 16
theorem sc_l_low : FnScope ["_law_top", "_law_under", "_law_a", "_law_b"] ["_law_top", "_law_under"] (defScope s_l_low) := ⟨rfl, rfl, rfl, by decide +kernel, rfl, by decide +kernel, by decide +kernel⟩
abbrev s_l_part : Stmt := topS 17
theorem sc_l_part : FnScope ["_law_top", "_law_under"] ["_law_top", "_law_under"] (defScope s_l_part) := ⟨rfl, rfl, rfl, by decide +kernel, rfl, by decide +kernel, by decide +kernel⟩
abbrev s_l_on : Stmt := topS 18
theorem sc_l_on : FnScope ["_law_one", "_law_other"] ["_law_one", "_law_other"] (defScope s_l_on) := ⟨rfl, rfl, rfl, by decide +kernel, rfl, by decide +kernel, by decide +kernel⟩
abbrev s_l_off : Stmt := topS 19
theorem sc_l_off : FnScope ["_law_one", "_law_other"] ["_law_one", "_law_other"] (defScope s_l_off) := ⟨rfl, rfl, rfl, by decide +kernel, rfl, by decide +kernel, by decide +kernel⟩
abbrev s_l_number : Stmt := topS 20
theorem sc_l_number : FnScope ["_law_pool_here", "_law_way", "_law_found", "_law_turn"] ["_law_pool_here"] (defScope s_l_number) := ⟨rfl, rfl, rfl, by decide +kernel, rfl, by decide +kernel, by decide +kernel⟩
abbrev s_l_whole : Stmt := topS 21
theorem sc_l_whole : FnScope ["_law_thing"] ["_law_thing"] (defScope s_l_whole) := ⟨rfl, rfl, rfl, by decide +kernel, rfl, by decide +kernel, by decide +kernel⟩
abbrev s_l_is : Stmt := topS 22
theorem sc_l_is : FnScope ["_law_found", "_law_due"] ["_law_found", "_law_due"] (defScope s_l_is) := ⟨rfl, rfl, rfl, by decide +kernel, rfl, by decide +kernel, by decide +kernel⟩
abbrev s_l_signed : Stmt := topS 23
theorem sc_l_signed : FnScope ["_law_top", "_law_under"] ["_law_top", "_law_under"] (defScope s_l_signed) := ⟨rfl, rfl, rfl, by decide +kernel, rfl, by decide +kernel, by decide +kernel⟩
abbrev s_l_two : Stmt := topS 24
theorem sc_l_two : FnScope ["_law_pool_here", "_law_top", "_law_under"] ["_law_pool_here"] (defScope s_l_two) := ⟨rfl, rfl, rfl, by decide +kernel, rfl, by decide +kernel, by decide +kernel⟩
abbrev s_l_made_right : Stmt := topS 25
theorem sc_l_made_right : FnScope ["_law_top", "_law_under", "_law_due"] ["_law_top", "_law_under"] (defScope s_l_made_right) := ⟨rfl, rfl, rfl, by decide +kernel, rfl, by decide +kernel, by decide +kernel⟩
abbrev s_l_right : Stmt := topS 26
theorem sc_l_right : FnScope ["_law_one", "_law_other", "_law_many", "_law_a", "_law_b", "_law_first", "_law_second", "_law_both"] ["_law_one", "_law_other", "_law_many"] (defScope s_l_right) := ⟨rfl, rfl, rfl, by decide +kernel, rfl, by decide +kernel, by decide +kernel⟩
abbrev s_law : Stmt := topS 27
theorem sc_law : FnScope ["_law_script", "_law_k", "_law_pool_here", "_law_one", "_law_other"] ["_law_script"] (defScope s_law) := ⟨rfl, rfl, rfl, by decide +kernel, rfl, by decide +kernel, by decide +kernel⟩
def d_is_whole : He.DefD := ⟨("is_whole", none), "is_whole", "is_whole", defArgs s_is_whole, defBody s_is_whole, defScope s_is_whole, [], []⟩
def d_common : He.DefD := ⟨("common", none), "common", "common", defArgs s_common, defBody s_common, defScope s_common, [], []⟩
def d_must_be_turn : He.DefD := ⟨("must_be_turn", none), "must_be_turn", "must_be_turn", defArgs s_must_be_turn, defBody s_must_be_turn, defScope s_must_be_turn, [], []⟩
def d_Turn_init : He.DefD := ⟨("Turn", some "__init__"), "__init__", "Turn.__init__", defArgs s_Turn_init, defBody s_Turn_init, defScope s_Turn_init, [.int 1], []⟩
def d_Turn_plus : He.DefD := ⟨("Turn", some "plus"), "plus", "Turn.plus", defArgs s_Turn_plus, defBody s_Turn_plus, defScope s_Turn_plus, [], []⟩
def d_Turn_minus : He.DefD := ⟨("Turn", some "minus"), "minus", "Turn.minus", defArgs s_Turn_minus, defBody s_Turn_minus, defScope s_Turn_minus, [], []⟩
def d_Turn_times : He.DefD := ⟨("Turn", some "times"), "times", "Turn.times", defArgs s_Turn_times, defBody s_Turn_times, defScope s_Turn_times, [], []⟩
def d_Turn_opposite : He.DefD := ⟨("Turn", some "opposite"), "opposite", "Turn.opposite", defArgs s_Turn_opposite, defBody s_Turn_opposite, defScope s_Turn_opposite, [], []⟩
def d_l_cell : He.DefD := ⟨("_law_cell", none), "_law_cell", "_law_cell", defArgs s_l_cell, defBody s_l_cell, defScope s_l_cell, [], []⟩
def d_l_pool : He.DefD := ⟨("_law_pool", none), "_law_pool", "_law_pool", defArgs s_l_pool, defBody s_l_pool, defScope s_l_pool, [], []⟩
def d_l_take : He.DefD := ⟨("_law_take", none), "_law_take", "_law_take", defArgs s_l_take, defBody s_l_take, defScope s_l_take, [], []⟩
def d_l_low : He.DefD := ⟨("_law_low", none), "_law_low", "_law_low", defArgs s_l_low, defBody s_l_low, defScope s_l_low, [], []⟩
def d_l_part : He.DefD := ⟨("_law_part", none), "_law_part", "_law_part", defArgs s_l_part, defBody s_l_part, defScope s_l_part, [], []⟩
def d_l_on : He.DefD := ⟨("_law_on", none), "_law_on", "_law_on", defArgs s_l_on, defBody s_l_on, defScope s_l_on, [], []⟩
def d_l_off : He.DefD := ⟨("_law_off", none), "_law_off", "_law_off", defArgs s_l_off, defBody s_l_off, defScope s_l_off, [], []⟩
def d_l_number : He.DefD := ⟨("_law_number", none), "_law_number", "_law_number", defArgs s_l_number, defBody s_l_number, defScope s_l_number, [], []⟩
def d_l_whole : He.DefD := ⟨("_law_whole", none), "_law_whole", "_law_whole", defArgs s_l_whole, defBody s_l_whole, defScope s_l_whole, [], []⟩
def d_l_is : He.DefD := ⟨("_law_is", none), "_law_is", "_law_is", defArgs s_l_is, defBody s_l_is, defScope s_l_is, [], []⟩
def d_l_signed : He.DefD := ⟨("_law_signed", none), "_law_signed", "_law_signed", defArgs s_l_signed, defBody s_l_signed, defScope s_l_signed, [], []⟩
def d_l_two : He.DefD := ⟨("_law_two", none), "_law_two", "_law_two", defArgs s_l_two, defBody s_l_two, defScope s_l_two, [], []⟩
def d_l_made_right : He.DefD := ⟨("_law_made_right", none), "_law_made_right", "_law_made_right", defArgs s_l_made_right, defBody s_l_made_right, defScope s_l_made_right, [], []⟩
def d_l_right : He.DefD := ⟨("_law_right", none), "_law_right", "_law_right", defArgs s_l_right, defBody s_l_right, defScope s_l_right, [], []⟩
def d_law : He.DefD := ⟨("law", none), "law", "law", defArgs s_law, defBody s_law, defScope s_law, [], []⟩
def fn : List He.DefD := [d_is_whole, d_common, d_must_be_turn, d_Turn_init, d_Turn_plus, d_Turn_minus, d_Turn_times, d_Turn_opposite, d_l_cell, d_l_pool, d_l_take, d_l_low, d_l_part, d_l_on, d_l_off, d_l_number, d_l_whole, d_l_is, d_l_signed, d_l_two, d_l_made_right, d_l_right, d_law]
def fa0 : List He.Fa := [.glo "is_whole", .glo "common", .glo "must_be_turn", .glo "_law_cell", .glo "_law_pool", .glo "_law_take", .glo "_law_low", .glo "_law_part", .glo "_law_on", .glo "_law_off", .glo "_law_number", .glo "_law_whole", .glo "_law_is", .glo "_law_signed", .glo "_law_two", .glo "_law_made_right", .glo "_law_right", .glo "law", .free "isinstance", .free "int", .free "bool", .free "abs", .free "len", .free "divmod", .free "range", .free "max", .free "min", .glo "Turn", .cls "Turn", .mkr "Turn"]
def fa1 : List He.Fa := [.noat "Turn" "top", .noat "Turn" "bottom", .meth "Turn" "plus", .meth "Turn" "minus", .meth "Turn" "times", .meth "Turn" "opposite"]
def fa : List He.Fa := fa0 ++ fa1
def ex (K : PySem.W.Frag) : Bool := tyB K "Turn"
def ns0 : List PySem.Str := ["_wall", "RoseError", "NoTurn", "PIECE", "is_whole", "common", "figures_of", "Turn", "must_be_turn", "_law_cell", "_law_pool", "_law_take", "_law_low", "_law_part", "_law_on", "_law_off", "_law_number", "_law_whole", "_law_is", "_law_signed", "_law_two", "_law_made_right", "_law_right"]
def names : List PySem.Str := ns0
abbrev R : PySem.W.OpenRow := PySem.W.OpenLaw.row PySem.Challenge.rw_rosenames_k01_turns_reckoned
def hk : PySem.W.Hook := hookM 5 fa fn ex
def ob (s : PySem.W.SharedT) : He.AlD × Bool := (He.obsD fa fn (He.frG (HandSHeadRun.getT s) (asN (HandSHeadRun.getT s) 5)), ex (He.frG (HandSHeadRun.getT s) (asN (HandSHeadRun.getT s) 5)))
theorem ob_eq (s : PySem.W.SharedT) : ob s = hk.obs s.abs := by
  have e : HandSHeadRun.getT s = s.abs.heap.get? := funext fun a => HandSHeadRun.getT_eq s a
  unfold ob
  rw [e]
  rfl
theorem run (w : World) : HandSHeadRun.RunEq R (PySem.W.view R.prog [27]) hk ob 6000 names w := by
  intro os
  kernel_rfl
end K01
namespace K01
open PySem PySem.Spec PyProof.Rows L2 Evl
/-! ### what the written part says -/
structure Txt (K : PySem.W.Frag) (mg : Str → Option Value) : Prop where
  g_Turn : mg "Turn" = some (.ref (He.ga K "Turn"))
  cl_Turn : Cls K (He.ga K "Turn")
  mk_Turn : Mk K (He.ga K "Turn") (He.ma K (He.ga K "Turn") "__init__")
  no_top : NoAttr K (He.ga K "Turn") "top"
  no_bottom : NoAttr K (He.ga K "Turn") "bottom"
  is_Turn : IsC K (He.ga K "Turn")
  m_plus : Meth K (He.ga K "Turn") "plus" (He.ma K (He.ga K "Turn") "plus")
  m_minus : Meth K (He.ga K "Turn") "minus" (He.ma K (He.ga K "Turn") "minus")
  m_times : Meth K (He.ga K "Turn") "times" (He.ma K (He.ga K "Turn") "times")
  m_opposite : Meth K (He.ga K "Turn") "opposite" (He.ma K (He.ga K "Turn") "opposite")
  b_isinstance : mg "isinstance" = none
  b_int : mg "int" = none
  b_bool : mg "bool" = none
  b_abs : mg "abs" = none
  b_len : mg "len" = none
  b_divmod : mg "divmod" = none
  b_range : mg "range" = none
  b_max : mg "max" = none
  b_min : mg "min" = none
abbrev FnP (K : PySem.W.Frag) (x : Str) (st : Stmt) (f : Addr) (fd : FuncData) : Prop := FunD K x x (defArgs st) (defBody st) (defScope st) [] [] f fd
abbrev FnM (K : PySem.W.Frag) (x qual : Str) (st : Stmt) (f : Addr) (fd : FuncData) : Prop := FunD K x qual (defArgs st) (defBody st) (defScope st) [] [] f fd
/-! ### a turn in the heap -/
def tf (a : Int × Int) : List (Str × V) := [("top", .int a.1), ("bottom", .int a.2)]
theorem nTB : ¬ (("top" : Str) = "bottom") := by decide +kernel
theorem nBT : ¬ (("bottom" : Str) = "top") := by decide +kernel
theorem tf_put (x y : Int) : putF "bottom" (.int y) (putF "top" (.int x) []) = tf (x, y) := by
  show (if ("top" : Str) = "bottom" then _ else (("top" : Str), V.int x) :: putF "bottom" (V.int y) []) = _
  rw [if_neg nTB]
  rfl
theorem tf_top (a : Int × Int) : (tf a).lookup ("top" : Str) = some (.int a.1) := by
  simp [tf, List.lookup]
theorem tf_bottom (a : Int × Int) : (tf a).lookup ("bottom" : Str) = some (.int a.2) := by
  have h : (("bottom" : Str) == "top") = false := beq_eq_false_iff_ne.mpr nBT
  simp [tf, List.lookup, h]
theorem tf_no (a : Int × Int) {m : Str} (h1 : ¬ m = "top") (h2 : ¬ m = "bottom") : (tf a).lookup m = none := by
  have e1 : (m == ("top" : Str)) = false := beq_eq_false_iff_ne.mpr h1
  have e2 : (m == ("bottom" : Str)) = false := beq_eq_false_iff_ne.mpr h2
  simp [tf, List.lookup, e1, e2]
/-- at p a turn of these values -/
def TurnAt (C : Addr) (H : Hp) (p : Addr) (a : Int × Int) : Prop := ∃ dx, H p = some (.ins C dx (tf a))
theorem TurnAt.ex {C : Addr} {H H' : Hp} {p : Addr} {a : Int × Int} (h : TurnAt C H p a) (e : Ex H H') : TurnAt C H' p a := by
  obtain ⟨dx, h⟩ := h
  exact ⟨dx, e _ _ h⟩
/-- a pair as a tuple -/
def tv (a : Int × Int) : List V := [.int a.1, .int a.2]
/-! ### the promises of the program -/
def sp_is_whole : Sp := fun vs H Q _ => ∃ i : Int, vs = [.int i] ∧ ∀ H2, Ex H H2 → Q (.bl true) H2
def sp_common : Sp := fun vs H Q _ => ∃ a b : Int, vs = [.int a, .int b] ∧ 0 ≤ a ∧ 0 ≤ b ∧ ∀ H2, Ex H H2 → Q (.int (Int.gcd a b : Int)) H2
def sp_must (C : Addr) : Sp := fun vs H Q _ => ∃ (x dx : Addr) (fs : List (Str × V)), vs = [.ref x] ∧ H x = some (.ins C dx fs) ∧ ∀ H2, Ex H H2 → Q .non H2
def sp_init (C : Addr) : Sp := fun vs H Q _ => ∃ (x dx : Addr) (t u : Int), vs = [.ref x, .int t, .int u] ∧ u ≠ 0 ∧ u.natAbs < 2 ^ 4000 ∧ H x = some (.ins C dx []) ∧
  ∀ H2, But x H H2 → H2 x = some (.ins C dx (tf (Tn.sgn t u))) → Q .non H2
/-- a new turn is told -/
def NewT (C : Addr) (H : Hp) (Q : VK) (a : Int × Int) : Prop := ∀ p H2, H p = none → Ex H H2 → TurnAt C H2 p a → Q (.ref p) H2
def Sm (a : Int × Int) : Prop := Tn.Can a ∧ a.2 < 2 ^ 400
def sp_two (C : Addr) (g : Int × Int → Int × Int → Int × Int) : Sp := fun vs H Q _ => ∃ (x y : Addr) (a b : Int × Int), vs = [.ref x, .ref y] ∧ TurnAt C H x a ∧ TurnAt C H y b ∧ Sm a ∧ Sm b ∧ NewT C H Q (g a b)
def sp_times (C : Addr) : Sp := fun vs H Q _ => ∃ (x : Addr) (a : Int × Int) (m : Int), vs = [.ref x, .int m] ∧ TurnAt C H x a ∧ Sm a ∧ m.natAbs < 2 ^ 400 ∧ NewT C H Q (Tn.part (a.1 * m) a.2)
def sp_opposite (C : Addr) : Sp := fun vs H Q _ => ∃ (x : Addr) (a : Int × Int), vs = [.ref x] ∧ TurnAt C H x a ∧ Sm a ∧ NewT C H Q (Tn.on a Tn.half)
theorem Sm.b2 {a : Int × Int} (h : Sm a) : a.2.natAbs < 2 ^ 400 := by
  have := h.1.pos
  have := h.2
  omega
theorem Sm.b1 {a : Int × Int} (h : Sm a) : a.1.natAbs < 2 ^ 400 := by
  have := h.1.nn
  have := h.1.lt
  have := h.2
  omega
section
variable {P : Program} {w : World} {K : PySem.W.Frag} {mg : Str → Option Value} {base : Heap} {f : Addr} {fd : FuncData}
theorem ok_is_whole (F : FnP K "is_whole" s_is_whole f fd) (T : Txt K mg) : FnOk P w K mg base CX0 1 f fd ["thing"] sp_is_whole := by
  refine F.ok sc_is_whole (fun vs H Q E h => ?_) (fun cdv A outer s H vs Q E hr h => ?_)
  · obtain ⟨i, rfl, _⟩ := h
    rfl
  · obtain ⟨i, rfl, k⟩ := h
    refine ⟨_, PSs.nox (pss_one (ps_ret (pe_and (pe_callB call_isi (by rfl) T.b_isinstance (by decide +kernel) (pa_cons (pv 0) (pa_cons (pe_bltn (v := .ty "int") (by rfl) T.b_int (by decide +kernel) rfl) pa_nil))) (pe_one (pe_not (pe_callB call_isi (by rfl) T.b_isinstance (by decide +kernel) (pa_cons (pv 0) (pa_cons (pe_bltn (v := .ty "bool") (by rfl) T.b_bool (by decide +kernel) rfl) pa_nil)))))))), ?_⟩
    exact s_ret (v := .bl true) (ev_andV (ev_cb (ea_cons (ev_var rfl) (ea_cons ev_c ea_nil)) rc_isiI) fun _ => ev_notV (ev_cb (ea_cons (ev_var rfl) (ea_cons ev_c ea_nil)) rc_isiB)) k
theorem ok_common (F : FnP K "common" s_common f fd) (T : Txt K mg) : FnOk P w K mg base CX0 1 f fd ["one", "other"] sp_common := by
  refine F.ok sc_common (fun vs H Q E h => ?_) (fun cdv A outer s H vs Q E hr h => ?_)
  · obtain ⟨a, b, rfl, _⟩ := h
    rfl
  · obtain ⟨a, b, rfl, ha, hb, k⟩ := h
    refine ⟨_, PSs.nox (pss_cons (ps_while PassesOwn.never (pt_cmpR op_ne (pv 1) pe_int (nomark _)) (pss_one (ps_par (i := 0) (j := 1) (by rfl) sc_common.nd rfl rfl (by decide) rfl rfl (pa_cons (pv 1) (pa_cons (pe_op op_mod (pv 0) (pv 1)) pa_nil)) (by rfl))))
      (pss_one (ps_ret (pv 0)))), ?_⟩
    refine q_while (fun m σ' H' => Ex H H' ∧ ∃ x y : Int, σ' = [some (.int x), some (.int y)] ∧ 0 ≤ x ∧ 0 ≤ y ∧ Int.gcd x y = Int.gcd a b ∧ m = y.toNat) b.toNat ⟨Ex.refl _, a, b, rfl, ha, hb, rfl, rfl⟩ ?_
    rintro m σ' H' ⟨e, x, y, rfl, hx, hy, hg, rfl⟩
    refine ⟨_, et_test (ev_neI (ev_var rfl) ev_c), fun hb2 H1 e1 => ?_, fun hb2 H1 e1 => ?_⟩
    · have hy0 : y ≠ 0 := by simpa using hb2
      have hyp : 0 < y := by omega
      refine ⟨fun σ2 H2 => Ex H H2 ∧ σ2 = [some (.int y), some (.int (x % y))], fun σ2 H2 ⟨e2, h2⟩ => ?_, ?_⟩
      · have l1 := Int.emod_lt_of_pos x hyp
        have l2 := Int.emod_nonneg x hy0
        refine ⟨(x % y).toNat, by omega, e2, y, x % y, h2, by omega, l2, ?_, rfl⟩
        rw [← hg]
        exact Tn.gcd_step x y hx hyp
      · exact (ea_cons (ev_var rfl) (ea_cons (ev_mod (ev_var rfl) (ev_var rfl) hyp) ea_nil)) H1 (Ex.refl _) _ fun H2 e2 => ⟨_, _, rfl, (e.trans e1).trans e2, rfl⟩
    · have hy0 : y = 0 := by simpa using hb2
      subst hy0
      refine s_ret (ev_var rfl) fun H2 e2 => ?_
      have hz : (Int.gcd a b : Int) = x := by
        rw [← hg, Int.gcd_zero_right]
        omega
      have := k H2 ((e.trans e1).trans e2)
      rw [hz] at this
      exact this
theorem ok_must (F : FnP K "must_be_turn" s_must_be_turn f fd) (T : Txt K mg) : FnOk P w K mg base CX0 1 f fd ["thing"] (sp_must (He.ga K "Turn")) := by
  refine F.ok sc_must_be_turn (fun vs H Q E h => ?_) (fun cdv A outer s H vs Q E hr h => ?_)
  · obtain ⟨x, dx, fs, rfl, _⟩ := h
    rfl
  · obtain ⟨x, dx, fs, rfl, hx, k⟩ := h
    refine ⟨_, PSs.nox (pss_one (ps_if (pt_not (pt_val (pe_callB call_isi (by rfl) T.b_isinstance (by decide +kernel) (pa_cons (pv 0) (pa_cons (pe_glob (v := .ref (He.ga K "Turn")) (by rfl) T.g_Turn rfl) pa_nil))))) (pss_one ps_never) pss_nil)), ?_⟩
    refine s_when (et_not (et_B (ev_cb (ea_cons (ev_var rfl) (ea_cons ev_c ea_nil)) (rc_isiC hx T.cl_Turn T.is_Turn)))) (fun hb => nomatch hb) fun _ H1 e1 => k H1 e1
abbrev Cn (P : Program) (w : World) (K : PySem.W.Frag) (mg : Str → Option Value) (base : Heap) : Prop := Dn P w K mg base 1 "is_whole" ["thing"] sp_is_whole
abbrev Cc (P : Program) (w : World) (K : PySem.W.Frag) (mg : Str → Option Value) (base : Heap) : Prop := Dn P w K mg base 1 "common" ["one", "other"] sp_common
theorem ok_init {dvs : List V} {kws : List (Str × V)} (F : FunD K "__init__" "Turn.__init__" (defArgs s_Turn_init) (defBody s_Turn_init) (defScope s_Turn_init) dvs kws f fd) (T : Txt K mg) (D_is_whole : Cn P w K mg base) (D_common : Cc P w K mg base) :
    FnOk P w K mg base CX0 2 f fd ["self", "top", "bottom"] (sp_init (He.ga K "Turn")) := by
  refine F.ok sc_Turn_init (fun vs H Q E h => ?_) (fun cdv A outer s H vs Q E hr h => ?_)
  · obtain ⟨x, dx, t, u, rfl, _⟩ := h
    rfl
  · obtain ⟨x, dx, t, u, rfl, hu, hz, hx, k⟩ := h
    refine ⟨_, PSs.nox (pss_cons (ps_if (pt_not (pt_val (pe_cd D_is_whole (hr.mono (by decide)) (by rfl) (pa_cons (pv 1) pa_nil)))) (pss_one ps_never) pss_nil)
      (pss_cons (ps_if (PW.pt (pw_or (pt_not (pt_val (pe_cd D_is_whole (hr.mono (by decide)) (by rfl) (pa_cons (pv 2) pa_nil)))) (pw_or1 (pt_cmpR op_eq (pv 2) pe_int (nomark _))))) (pss_one ps_never) pss_nil)
      (pss_cons (ps_set (i := 3) sc_Turn_init.nd rfl (Or.inl rfl) (pe_ifExp (pt_cmpR op_gt (pv 2) pe_int (nomark _)) (pv 1) (pe_un un_neg (pv 1))))
      (pss_cons (ps_set (i := 4) sc_Turn_init.nd rfl (Or.inl rfl) (pe_callB call_abs (by rfl) T.b_abs (by decide +kernel) (pa_cons (pv 2) pa_nil)))
      (pss_cons (ps_set (i := 5) sc_Turn_init.nd rfl (Or.inl rfl) (pe_op op_mod (pv 3) (pv 4)))
      (pss_cons (ps_set (i := 6) sc_Turn_init.nd rfl (Or.inl rfl) (pe_cd D_common (hr.mono (by decide)) (by rfl) (pa_cons (pv 5) (pa_cons (pv 4) pa_nil))))
      (pss_cons (ps_fld (pv 0) (pe_op op_fdivW (pv 5) (pv 6)) rfl)
      (pss_one (ps_fld (pv 0) (pe_op op_fdivW (pv 4) (pv 6)) rfl))))))))), ?_⟩
    have wh : ∀ {i : Int} {H0 : Hp}, SpV sp_is_whole [.int i] H0 (.bl true) := fun {i H0} H1 e Q' q E' => ⟨i, rfl, q⟩
    refine q_when (et_not (et_B (ev_call (ea_cons (ev_var rfl) ea_nil) wh))) (fun hb => nomatch hb) fun _ H1 e1 => ?_
    refine q_when (b := false) (et_is (et_or (et_not (et_B (ev_call (ea_cons (ev_var rfl) ea_nil) wh))) fun _ => et_test (ev_eqI (ev_var rfl) ev_c)) (by simpa using hu)) (fun hb => nomatch hb) fun _ H2 e2 => ?_
    -- signed, size, part, shared
    let sg : Int := if u < 0 then -t else t
    have hsg : sg = if u < 0 then -t else t := rfl
    clear_value sg
    have un : (u.natAbs : Int) ≠ 0 := by omega
    have up : (0 : Int) < (u.natAbs : Int) := by omega
    refine q_asg (v := .int sg) (ev_if (et_test (ev_gt (ev_var rfl) ev_c)) (fun hb => ?_) (fun hb => ?_)) fun H3 e3 => ?_
    · have : 0 < u := of_decide_eq_true hb
      rw [hsg, if_neg (by omega)]
      exact ev_var rfl
    · have : ¬ 0 < u := of_decide_eq_false hb
      rw [hsg, if_pos (by omega)]
      exact ev_neg (ev_var rfl)
    refine q_asg (ev_cb (ea_cons (ev_var rfl) ea_nil) rc_abs) fun H4 e4 => ?_
    refine q_asg (ev_mod (ev_var rfl) (ev_var rfl) up) fun H5 e5 => ?_
    have pn := Int.emod_nonneg sg un
    have cm : SpV sp_common [.int (sg % (u.natAbs : Int)), .int (u.natAbs : Int)] H5 (.int (Int.gcd (sg % (u.natAbs : Int)) (u.natAbs : Int) : Int)) := fun H1 e Q' q E' => ⟨_, _, rfl, pn, by omega, q⟩
    refine q_asg (ev_call (ea_cons (ev_var rfl) (ea_cons (ev_var rfl) ea_nil)) cm) fun H6 e6 => ?_
    have gp : (0 : Int) < (Int.gcd (sg % (u.natAbs : Int)) (u.natAbs : Int) : Int) := Tn.gcd_pos up
    have gl : (Int.gcd (sg % (u.natAbs : Int)) (u.natAbs : Int) : Int) ≤ (u.natAbs : Int) := Int.le_of_dvd up (Int.gcd_dvd_right ..)
    have gz : (Int.gcd (sg % (u.natAbs : Int)) (u.natAbs : Int) : Int).natAbs < 2 ^ 4000 := by omega
    have hx6 : H6 x = some (.ins (He.ga K "Turn") dx []) := (((((e1.trans e2).trans e3).trans e4).trans e5).trans e6) _ _ hx
    have e16 : Ex H H6 := ((((e1.trans e2).trans e3).trans e4).trans e5).trans e6
    refine (ev_fdivW (ev_var rfl) (ev_var rfl) gp gz) H6 (Ex.refl _) _ fun H7 e7 => ?_
    refine ⟨_, rfl, x, He.ga K "Turn", dx, [], rfl, e7 _ _ hx6, T.cl_Turn, T.no_top, (by show 0 < 1000; decide), ?_⟩
    refine (ev_fdivW (ev_var rfl) (ev_var rfl) gp gz) _ (Ex.refl _) _ fun H8 e8 => ?_
    refine ⟨_, rfl, x, He.ga K "Turn", dx, _, rfl, e8 _ _ upd_same, T.cl_Turn, T.no_bottom, (by show 1 < 1000; decide), ?_⟩
    have es : Tn.sgn t u = Tn.low (sg % (u.natAbs : Int)) (u.natAbs : Int) := by
      unfold Tn.sgn Tn.part
      by_cases h : u < 0
      · rw [if_pos h, hsg, if_pos h]
        have : -u = (u.natAbs : Int) := by omega
        rw [this]
      · rw [if_neg h, hsg, if_neg h]
        have : u = (u.natAbs : Int) := by omega
        rw [← this]
    refine k _ (((But.ex (e16.trans e7)).trans But.upd).trans ((But.ex e8).trans But.upd)) ?_
    rw [upd_same, tf_put, es]
    rfl
/-- Turn(t, u) -/
theorem make_turn {C : Addr} {H : Hp} {t u : Int} {Q : VK} (hu : u ≠ 0) (hz : u.natAbs < 2 ^ 4000) (k : NewT C H Q (Tn.sgn t u)) :
    ∀ x dx, H x = none → H dx = none → dx ≠ x → sp_init C [.ref x, .int t, .int u] (upd (upd H dx (.own x)) x (.ins C dx [])) (fun v H2 => v = .non ∧ Q (.ref x) H2) E0 := fun x dx hx hdx ne => by
  refine ⟨x, dx, t, u, rfl, hu, hz, upd_same, fun H2 b hb => ⟨rfl, k x H2 hx (fun a o h => ?_) ⟨dx, hb⟩⟩⟩
  have n1 : a ≠ x := ne_of_none h hx
  refine b a o n1 ?_
  rw [upd_ne n1, upd_ne (ne_of_none h hdx)]
  exact h
end
end K01

namespace K01
open PySem PySem.Spec PyProof.Rows L2 Evl
/-- Turn's maker, by place, by keyword, by its default -/
def Tc (P : Program) (w : World) (K : PySem.W.Frag) (mg : Str → Option Value) (base : Heap) : Prop := ∃ fd, FnOk P w K mg base CX0 2 (He.ma K (He.ga K "Turn") "__init__") fd ["self", "top", "bottom"] (sp_init (He.ga K "Turn")) ∧
  Binds K fd ["self", "top", "bottom"] [] ∧ (∃ ds, Vals [.int 1] ds ∧ Binds K fd ["self", "top", "bottom"] ds) ∧ ∃ its : List Value, KBn K fd ["self", "top", "bottom"] 2 ["bottom"] (fun us ws => us ++ ws) (fun vs zs => vs ++ zs)
abbrev Cm (P : Program) (w : World) (K : PySem.W.Frag) (mg : Str → Option Value) (base : Heap) : Prop := Dn P w K mg base 1 "must_be_turn" ["thing"] (sp_must (He.ga K "Turn"))
/-- a new turn comes of an expression -/
def EvTn (C : Addr) (te : TE) (σ : L2.St) (H : Hp) (a : Int × Int) : Prop := ∀ H1, Ex H H1 → ∀ Q : VK, NewT C H1 Q a → te σ H1 Q
section
variable {C : Addr} {σ : L2.St} {H : Hp} {ta : TA} {to te : TE} {t u : Int} {a b : Int × Int} {D : Ends} {vs dvs : List V}
theorem tn_make (h : EvA ta σ H vs) (hu : u ≠ 0) (hz : u.natAbs < 2 ^ 4000) (e : vs ++ dvs = [.int t, .int u] := by rfl) : EvTn C (tMake C (sp_init C) dvs E0 ta) σ H (Tn.sgn t u) := fun H1 e1 Q q =>
  h H1 e1 _ fun H2 e2 => by
    rw [e]
    exact make_turn hu hz fun p H3 hp e3 ht => q p H3 (fresh_back e2 hp) (e2.trans e3) ht
theorem s_retTn (h : EvTn C te σ H a) (k : NewT C H D.rt a) : tRet te D σ H := h H (Ex.refl _) _ k
theorem EvTn.is (h : EvTn C te σ H a) (e : a = b) : EvTn C te σ H b := e ▸ h
theorem NewT.ex {H1 : Hp} {Q : VK} (k : NewT C H Q a) (e : Ex H H1) : NewT C H1 Q a := fun p H2 hp e2 ht => k p H2 (fresh_back e hp) (e.trans e2) ht
end
theorem pow_mul {i j : Int} {n m : Nat} (hi : i.natAbs < 2 ^ n) (hj : j.natAbs < 2 ^ m) : (i * j).natAbs < 2 ^ (n + m) := wide_lt hi hj
theorem pow_up {i : Int} {n m : Nat} (hi : i.natAbs < 2 ^ n) (h : n ≤ m) : i.natAbs < 2 ^ m := pow_big hi h
section
variable {P : Program} {w : World} {K : PySem.W.Frag} {mg : Str → Option Value} {base : Heap} {f : Addr} {fd : FuncData}
theorem ok_plus (F : FnM K "plus" "Turn.plus" s_Turn_plus f fd) (T : Txt K mg) (D_must_be_turn : Cm P w K mg base) (TC : Tc P w K mg base) : FnOk P w K mg base CX0 4 f fd ["self", "other"] (sp_two (He.ga K "Turn") Tn.on) := by
  obtain ⟨fdI, G_Turn_init, b_Turn_init, _, _⟩ := TC
  refine F.ok sc_Turn_plus (fun vs H Q E h => ?_) (fun cdv A outer s H vs Q E hr h => ?_)
  · obtain ⟨x, y, a, b, rfl, _⟩ := h
    rfl
  · obtain ⟨x, y, a, b, rfl, ⟨dx, hx⟩, ⟨dy, hy⟩, ha, hb, k⟩ := h
    refine ⟨_, PSs.nox (pss_cons (ps_expr (pe_cd D_must_be_turn (hr.mono (by decide)) (by rfl) (pa_cons (pv 1) pa_nil)))
      (pss_one (ps_ret (pe_make T.mk_Turn G_Turn_init (hr.mono (by decide)) (by rfl) T.g_Turn b_Turn_init .nil pass0 (pa_cons (pe_op op_add (pe_op op_mulW (pe_fld (pv 0) rfl) (pe_fld (pv 1) rfl)) (pe_op op_mulW (pe_fld (pv 1) rfl) (pe_fld (pv 0) rfl))) (pa_cons (pe_op op_mulW (pe_fld (pv 0) rfl) (pe_fld (pv 1) rfl)) pa_nil)))))), ?_⟩
    have mu : SpV (sp_must (He.ga K "Turn")) [.ref y] H .non := fun H1 e Q' q E' => ⟨y, dy, _, rfl, e _ _ hy, q⟩
    refine q_drop (ev_call (ea_cons (ev_var rfl) ea_nil) mu) fun H1 e1 => ?_
    have hx1 := e1 _ _ hx
    have hy1 := e1 _ _ hy
    have s1 : Ev (tFld K (tVar 0) "top") _ H1 (.int a.1) := ev_fld (σ := [some (.ref x), some (.ref y)]) (ev_var rfl) hx1 T.cl_Turn T.no_top (tf_top a)
    have s2 : Ev (tFld K (tVar 0) "bottom") _ H1 (.int a.2) := ev_fld (σ := [some (.ref x), some (.ref y)]) (ev_var rfl) hx1 T.cl_Turn T.no_bottom (tf_bottom a)
    have o1 : Ev (tFld K (tVar 1) "top") _ H1 (.int b.1) := ev_fld (σ := [some (.ref x), some (.ref y)]) (ev_var rfl) hy1 T.cl_Turn T.no_top (tf_top b)
    have o2 : Ev (tFld K (tVar 1) "bottom") _ H1 (.int b.2) := ev_fld (σ := [some (.ref x), some (.ref y)]) (ev_var rfl) hy1 T.cl_Turn T.no_bottom (tf_bottom b)
    have up : 0 < a.2 * b.2 := Int.mul_pos ha.1.pos hb.1.pos
    exact s_retTn ((tn_make (ea_cons (ev_add (ev_mulW s1 o2 ha.b1 hb.b2) (ev_mulW o1 s2 hb.b1 ha.b2)) (ea_cons (ev_mulW s2 o2 ha.b2 hb.b2) ea_nil)) (by omega) (pow_up (pow_mul ha.b2 hb.b2) (by decide))).is (Tn.sgn_pos up)) (k.ex e1)
theorem ok_minus (F : FnM K "minus" "Turn.minus" s_Turn_minus f fd) (T : Txt K mg) (D_must_be_turn : Cm P w K mg base) (TC : Tc P w K mg base) : FnOk P w K mg base CX0 4 f fd ["self", "other"] (sp_two (He.ga K "Turn") Tn.off) := by
  obtain ⟨fdI, G_Turn_init, b_Turn_init, _, _⟩ := TC
  refine F.ok sc_Turn_minus (fun vs H Q E h => ?_) (fun cdv A outer s H vs Q E hr h => ?_)
  · obtain ⟨x, y, a, b, rfl, _⟩ := h
    rfl
  · obtain ⟨x, y, a, b, rfl, ⟨dx, hx⟩, ⟨dy, hy⟩, ha, hb, k⟩ := h
    refine ⟨_, PSs.nox (pss_cons (ps_expr (pe_cd D_must_be_turn (hr.mono (by decide)) (by rfl) (pa_cons (pv 1) pa_nil)))
      (pss_one (ps_ret (pe_make T.mk_Turn G_Turn_init (hr.mono (by decide)) (by rfl) T.g_Turn b_Turn_init .nil pass0 (pa_cons (pe_op op_sub (pe_op op_mulW (pe_fld (pv 0) rfl) (pe_fld (pv 1) rfl)) (pe_op op_mulW (pe_fld (pv 1) rfl) (pe_fld (pv 0) rfl))) (pa_cons (pe_op op_mulW (pe_fld (pv 0) rfl) (pe_fld (pv 1) rfl)) pa_nil)))))), ?_⟩
    have mu : SpV (sp_must (He.ga K "Turn")) [.ref y] H .non := fun H1 e Q' q E' => ⟨y, dy, _, rfl, e _ _ hy, q⟩
    refine q_drop (ev_call (ea_cons (ev_var rfl) ea_nil) mu) fun H1 e1 => ?_
    have hx1 := e1 _ _ hx
    have hy1 := e1 _ _ hy
    have s1 : Ev (tFld K (tVar 0) "top") _ H1 (.int a.1) := ev_fld (σ := [some (.ref x), some (.ref y)]) (ev_var rfl) hx1 T.cl_Turn T.no_top (tf_top a)
    have s2 : Ev (tFld K (tVar 0) "bottom") _ H1 (.int a.2) := ev_fld (σ := [some (.ref x), some (.ref y)]) (ev_var rfl) hx1 T.cl_Turn T.no_bottom (tf_bottom a)
    have o1 : Ev (tFld K (tVar 1) "top") _ H1 (.int b.1) := ev_fld (σ := [some (.ref x), some (.ref y)]) (ev_var rfl) hy1 T.cl_Turn T.no_top (tf_top b)
    have o2 : Ev (tFld K (tVar 1) "bottom") _ H1 (.int b.2) := ev_fld (σ := [some (.ref x), some (.ref y)]) (ev_var rfl) hy1 T.cl_Turn T.no_bottom (tf_bottom b)
    have up : 0 < a.2 * b.2 := Int.mul_pos ha.1.pos hb.1.pos
    exact s_retTn ((tn_make (ea_cons (ev_sub (ev_mulW s1 o2 ha.b1 hb.b2) (ev_mulW o1 s2 hb.b1 ha.b2)) (ea_cons (ev_mulW s2 o2 ha.b2 hb.b2) ea_nil)) (by omega) (pow_up (pow_mul ha.b2 hb.b2) (by decide))).is (Tn.sgn_pos up)) (k.ex e1)
theorem ok_times (F : FnM K "times" "Turn.times" s_Turn_times f fd) (T : Txt K mg) (D_is_whole : Cn P w K mg base) (TC : Tc P w K mg base) : FnOk P w K mg base CX0 4 f fd ["self", "many"] (sp_times (He.ga K "Turn")) := by
  obtain ⟨fdI, G_Turn_init, b_Turn_init, _, _⟩ := TC
  refine F.ok sc_Turn_times (fun vs H Q E h => ?_) (fun cdv A outer s H vs Q E hr h => ?_)
  · obtain ⟨x, a, m, rfl, _⟩ := h
    rfl
  · obtain ⟨x, a, m, rfl, ⟨dx, hx⟩, ha, hm, k⟩ := h
    refine ⟨_, PSs.nox (pss_cons (ps_if (pt_not (pt_val (pe_cd D_is_whole (hr.mono (by decide)) (by rfl) (pa_cons (pv 1) pa_nil)))) (pss_one ps_never) pss_nil)
      (pss_one (ps_ret (pe_make T.mk_Turn G_Turn_init (hr.mono (by decide)) (by rfl) T.g_Turn b_Turn_init .nil pass0 (pa_cons (pe_op op_mulW (pe_fld (pv 0) rfl) (pv 1)) (pa_cons (pe_fld (pv 0) rfl) pa_nil)))))), ?_⟩
    have wh : ∀ {i : Int} {H0 : Hp}, SpV sp_is_whole [.int i] H0 (.bl true) := fun {i H0} H1 e Q' q E' => ⟨i, rfl, q⟩
    refine q_when (et_not (et_B (ev_call (ea_cons (ev_var rfl) ea_nil) wh))) (fun hb => nomatch hb) fun _ H1 e1 => ?_
    have hx1 := e1 _ _ hx
    have s1 : Ev (tFld K (tVar 0) "top") _ H1 (.int a.1) := ev_fld (σ := [some (.ref x), some (.int m)]) (ev_var rfl) hx1 T.cl_Turn T.no_top (tf_top a)
    have s2 : Ev (tFld K (tVar 0) "bottom") _ H1 (.int a.2) := ev_fld (σ := [some (.ref x), some (.int m)]) (ev_var rfl) hx1 T.cl_Turn T.no_bottom (tf_bottom a)
    have up := ha.1.pos
    exact s_retTn ((tn_make (ea_cons (ev_mulW s1 (ev_var rfl) ha.b1 hm) (ea_cons s2 ea_nil)) (by omega) (pow_up ha.b2 (by decide))).is (Tn.sgn_pos up)) (k.ex e1)
theorem ok_opposite (F : FnM K "opposite" "Turn.opposite" s_Turn_opposite f fd) (T : Txt K mg) (TC : Tc P w K mg base) : FnOk P w K mg base CX0 4 f fd ["self"] (sp_opposite (He.ga K "Turn")) := by
  obtain ⟨fdI, G_Turn_init, b_Turn_init, _, _⟩ := TC
  refine F.ok sc_Turn_opposite (fun vs H Q E h => ?_) (fun cdv A outer s H vs Q E hr h => ?_)
  · obtain ⟨x, a, rfl, _⟩ := h
    rfl
  · obtain ⟨x, a, rfl, ⟨dx, hx⟩, ha, k⟩ := h
    refine ⟨_, PSs.nox (pss_one (ps_ret (pe_make T.mk_Turn G_Turn_init (hr.mono (by decide)) (by rfl) T.g_Turn b_Turn_init .nil pass0 (pa_cons (pe_op op_add (pe_op op_mulW pe_int (pe_fld (pv 0) rfl)) (pe_fld (pv 0) rfl)) (pa_cons (pe_op op_mulW pe_int (pe_fld (pv 0) rfl)) pa_nil))))), ?_⟩
    have s1 : Ev (tFld K (tVar 0) "top") _ H (.int a.1) := ev_fld (σ := [some (.ref x)]) (ev_var rfl) hx T.cl_Turn T.no_top (tf_top a)
    have s2 : Ev (tFld K (tVar 0) "bottom") _ H (.int a.2) := ev_fld (σ := [some (.ref x)]) (ev_var rfl) hx T.cl_Turn T.no_bottom (tf_bottom a)
    have up := ha.1.pos
    have e : Tn.part (2 * a.1 + a.2) (2 * a.2) = Tn.on a Tn.half := by
      show _ = Tn.part (a.1 * 2 + 1 * a.2) (a.2 * 2)
      rw [Int.mul_comm 2 a.1, Int.mul_comm 2 a.2, Int.one_mul]
    exact s_retTn ((tn_make (ea_cons (ev_add (ev_mulW (n := 2) ev_c s1 (by decide) ha.b1) s2) (ea_cons (ev_mulW (n := 2) ev_c s2 (by decide) ha.b2) ea_nil)) (by omega) (pow_up (pow_mul (n := 2) (by decide) ha.b2) (by decide))).is ((Tn.sgn_pos (by omega)).trans e)) k
end
/-! ### the law's own defs -/
/-- the law's pool: three ints -/
def Pool (H : Hp) (p : Addr) : Prop := ∃ a b c : Int, H p = some (.lst [.int a, .int b, .int c]) ∧ 0 ≤ a ∧ a < 2147483549 ∧ 0 ≤ b
def sp_cell (K : PySem.W.Frag) : Sp := fun vs H Q _ => ∃ (l : Addr) (ns : List Int) (k : Nat), vs = [.ref l, .int (k : Int)] ∧ SqL K H l (ns.map V.int) ∧ k < 100 ∧ ∀ (i : Int) H2, Ex H H2 → Q (.int i) H2
def sp_pool : Sp := fun vs H Q _ => ∃ c : Int, vs = [.int c] ∧ ∀ p H2, H p = none → Ex H H2 → Pool H2 p → Q (.ref p) H2
def sp_take : Sp := fun vs H Q _ => ∃ (p : Addr) (m : Int), vs = [.ref p, .int m] ∧ 0 < m ∧ m < 1073741824 ∧ Pool H p ∧ ∀ (d : Int) H2, 0 ≤ d → d < m → But p H H2 → Pool H2 p → Q (.int d) H2
def sp_number : Sp := fun vs H Q _ => ∃ p : Addr, vs = [.ref p] ∧ Pool H p ∧ ∀ (n : Int) H2, n.natAbs < 2 ^ 90 → But p H H2 → Pool H2 p → Q (.int n) H2
/-- a new pair is told -/
def NewP (H : Hp) (Q : VK) (a : Int × Int) : Prop := ∀ p H2, H p = none → Ex H H2 → H2 p = some (.tup (tv a)) → Q (.ref p) H2
def sp_low : Sp := fun vs H Q _ => ∃ t u : Int, vs = [.int t, .int u] ∧ 0 ≤ t ∧ 0 < u ∧ u.natAbs < 2 ^ 4000 ∧ NewP H Q (Tn.low t u)
def sp_part : Sp := fun vs H Q _ => ∃ t u : Int, vs = [.int t, .int u] ∧ 0 < u ∧ u.natAbs < 2 ^ 4000 ∧ NewP H Q (Tn.part t u)
def sp_pair (g : Int × Int → Int × Int → Int × Int) : Sp := fun vs H Q _ => ∃ (p q : Addr) (a b : Int × Int), vs = [.ref p, .ref q] ∧ H p = some (.tup (tv a)) ∧ H q = some (.tup (tv b)) ∧ Sm a ∧ Sm b ∧ NewP H Q (g a b)
def sp_is (C : Addr) : Sp := fun vs H Q _ => ∃ (x q : Addr) (a : Int × Int), vs = [.ref x, .ref q] ∧ TurnAt C H x a ∧ H q = some (.tup (tv a)) ∧ ∀ H2, Ex H H2 → Q (.bl true) H2
def sp_signed : Sp := fun vs H Q _ => ∃ t u : Int, vs = [.int t, .int u] ∧ u ≠ 0 ∧ u.natAbs < 2 ^ 4000 ∧ NewP H Q (Tn.sgn t u)
def Dr (a : Int × Int) : Prop := a.2 ≠ 0 ∧ a.2.natAbs < 2 ^ 90
def sp_draw : Sp := fun vs H Q _ => ∃ p : Addr, vs = [.ref p] ∧ Pool H p ∧ ∀ (r : Addr) (a : Int × Int) H2, H r = none → Dr a → But p H H2 → Pool H2 p → H2 r = some (.tup (tv a)) → Q (.ref r) H2
def sp_made : Sp := fun vs H Q _ => ∃ t u : Int, vs = [.int t, .int u] ∧ Dr (t, u) ∧ ∀ H2, Ex H H2 → Q (.bl true) H2
def sp_right : Sp := fun vs H Q _ => ∃ (p q : Addr) (a b : Int × Int) (m : Int), vs = [.ref p, .ref q, .int m] ∧ H p = some (.tup (tv a)) ∧ H q = some (.tup (tv b)) ∧ Dr a ∧ Dr b ∧ m.natAbs < 2 ^ 90 ∧ ∀ H2, Ex H H2 → Q (.bl true) H2
def sp_law (K : PySem.W.Frag) : Sp := fun vs H Q _ => ∃ (a : Addr) (ns : List Int), vs = [.ref a] ∧ SqL K H a (ns.map V.int) ∧ ns.length ≤ 63 ∧ ∀ H', Q (.bl true) H'
section
variable {P : Program} {w : World} {K : PySem.W.Frag} {mg : Str → Option Value} {base : Heap} {f : Addr} {fd : FuncData}
theorem ok_whole (F : FnP K "_law_whole" s_l_whole f fd) (T : Txt K mg) : FnOk P w K mg base CX0 1 f fd ["_law_thing"] sp_is_whole := by
  refine F.ok sc_l_whole (fun vs H Q E h => ?_) (fun cdv A outer s H vs Q E hr h => ?_)
  · obtain ⟨i, rfl, _⟩ := h
    rfl
  · obtain ⟨i, rfl, k⟩ := h
    refine ⟨_, PSs.nox (pss_one (ps_ret (pe_and (pe_callB call_isi (by rfl) T.b_isinstance (by decide +kernel) (pa_cons (pv 0) (pa_cons (pe_bltn (v := .ty "int") (by rfl) T.b_int (by decide +kernel) rfl) pa_nil))) (pe_one (pe_not (pe_callB call_isi (by rfl) T.b_isinstance (by decide +kernel) (pa_cons (pv 0) (pa_cons (pe_bltn (v := .ty "bool") (by rfl) T.b_bool (by decide +kernel) rfl) pa_nil)))))))), ?_⟩
    exact s_ret (v := .bl true) (ev_andV (ev_cb (ea_cons (ev_var rfl) (ea_cons ev_c ea_nil)) rc_isiI) fun _ => ev_notV (ev_cb (ea_cons (ev_var rfl) (ea_cons ev_c ea_nil)) rc_isiB)) k
theorem ok_cell (F : FnP K "_law_cell" s_l_cell f fd) (T : Txt K mg) : FnOk P w K mg base CX0 1 f fd ["_law_script", "_law_k"] (sp_cell K) := by
  refine F.ok sc_l_cell (fun vs H Q E h => ?_) (fun cdv A outer s H vs Q E hr h => ?_)
  · obtain ⟨l, ns, k, rfl, _⟩ := h
    rfl
  · obtain ⟨l, ns, k, rfl, hs, hk, q⟩ := h
    refine ⟨_, PSs.nox (pss_cons (ps_if (pt_cmpR op_lt (pv 1) (pe_callB call_len_seq (by rfl) T.b_len (by decide +kernel) (pa_cons (pv 0) pa_nil)) (nomark _)) (pss_one (ps_ret (pe_ix ix_list (pv 0) (pv 1) (fun _ _ => rfl)))) pss_nil)
      (pss_cons (ps_set (i := 2) sc_l_cell.nd rfl (Or.inl rfl) (pe_op op_mod (pe_op op_mulW pe_int (pe_op op_add (pe_op op_add (pe_op op_mulW (pv 1) (pv 1)) (pe_op op_mulW pe_int (pv 1))) pe_int)) pe_int))
      (pss_cons (ps_for PassesOwn.never rfl (pi_list (pe_slice sl_list (pv 0) po_none (po_some pe_int))) (pg_name (i := 3) sc_l_cell.nd rfl (Or.inl rfl)) (pss_one (ps_set (i := 2) sc_l_cell.nd rfl (Or.inl rfl) (pe_op op_mod (pe_op op_add (pe_op op_mulW (pv 2) pe_int) (pv 3)) pe_int))))
      (pss_one (ps_ret (pv 2)))))), ?_⟩
    refine q_when (et_test (ev_lt (ev_var rfl) (ev_cb (ea_cons (ev_var rfl) ea_nil) (z := .int ((ns.map V.int).length : Nat)) (fun H1 e Q' k' => ⟨l, _, rfl, .inl (ex_l e hs), k' H1 (Ex.refl _)⟩)))) (fun hb H1 e1 => ?_) fun hb H1 e1 => ?_
    · have hlt : (k : Int) < ((ns.map V.int).length : Nat) := of_decide_eq_true hb
      rw [List.length_map] at hlt
      have hk2 : k < ns.length := by omega
      refine s_ret (ev_op (ev_var rfl) (ev_var rfl) (rv_ixL (ex_l e1 hs) (atI_nat (j := k) (v := .int ns[k]) (by rw [List.getElem?_map, List.getElem?_eq_getElem hk2]; rfl)))) fun H2 e2 => q _ H2 (e1.trans e2)
    · have hk9 : (k : Int).natAbs < 2 ^ 7 := by omega
      refine q_asg (ev_mod (ev_mulW (n := 16) (m := 20) ev_c (ev_add (ev_add (ev_mulW (ev_var rfl) (ev_var rfl) hk9 hk9) (ev_mulW (n := 3) ev_c (ev_var rfl) (by decide) hk9)) ev_c) (by decide) ?_) ev_c (by decide)) fun H2 e2 => ?_
      · have h1 : (k : Int) * (k : Int) = ((k * k : Nat) : Int) := by simp
        have h2 : k * k ≤ 100 * 100 := Nat.mul_le_mul (by omega) (by omega)
        rw [h1]
        omega
      · refine q_forNLn (K := K) (el_sl (ev_var rfl) eo_none (eo_some ev_c) (ex_l (e1.trans e2) hs)) (fun p i σ' H' => Ex H H' ∧ H' p = some (.lst (cutV (ns.map V.int) none (some 3))) ∧ ∃ (z : Int) (v : Option V), σ' = [some (.ref l), some (.int (k : Int)), some (.int z), v] ∧ 0 ≤ z ∧ z < 2147483549) (fun p H3 hp e3 h3 => ?_) (fun p i σ' H' _ ⟨_, h, _⟩ => sq_of h) (fun p i x σ' H' hi ⟨e, hp, z, v, hσ, z0, z1⟩ => ?_) fun p σ' H' ⟨e, hp, z, v, hσ, z0, z1⟩ => ?_
        · exact ⟨(e1.trans e2).trans e3, h3, _, _, rfl, Int.emod_nonneg _ (by decide), Int.emod_lt_of_pos _ (by decide)⟩
        · subst hσ
          obtain ⟨u, rfl⟩ : ∃ u, x = V.int u := by
            have hm := List.mem_of_getElem? hi
            unfold cutV at hm
            obtain ⟨u, _, e⟩ := List.mem_map.mp (List.mem_of_mem_drop (List.mem_of_mem_take hm))
            exact ⟨u, e.symm⟩
          exact s_asg (ev_mod (ev_add (ev_mulW (n := 40) (m := 20) (ev_var rfl) ev_c (by omega) (by decide)) (ev_var rfl)) ev_c (by decide)) fun H4 e4 => ⟨e.trans e4, e4 _ _ hp, _, _, rfl, Int.emod_nonneg _ (by decide), Int.emod_lt_of_pos _ (by decide)⟩
        · subst hσ
          exact s_ret (ev_var rfl) fun H4 e4 => q _ H4 (e.trans e4)
theorem ok_pool (F : FnP K "_law_pool" s_l_pool f fd) (T : Txt K mg) : FnOk P w K mg base CX0 1 f fd ["_law_cell_here"] sp_pool := by
  refine F.ok sc_l_pool (fun vs H Q E h => ?_) (fun cdv A outer s H vs Q E hr h => ?_)
  · obtain ⟨c, rfl, _⟩ := h
    rfl
  · obtain ⟨c, rfl, q⟩ := h
    refine ⟨_, PSs.nox (pss_cons (ps_set (i := 1) sc_l_pool.nd rfl (Or.inl rfl) pe_int)
      (pss_cons (ps_if (PW.pt (pw_or (pt_cmpR op_lt (pv 0) pe_int (nomark _)) (pw_or1 (pt_cmpR op_ge (pv 0) (pe_op op_pow pe_int pe_int) (nomark _))))) (pss_one (ps_set (i := 1) sc_l_pool.nd rfl (Or.inl rfl) (pe_callB call_abs (by rfl) T.b_abs (by decide +kernel) (pa_cons (pv 0) pa_nil)))) pss_nil)
      (pss_one (ps_ret (pe_lst (pa_cons (pe_op op_mod (pv 0) pe_int) (pa_cons (pv 1) (pa_cons pe_int pa_nil)))))))), ?_⟩
    refine q_asg ev_c fun H1 e1 => ?_
    have fin : ∀ (b : Int) H2, 0 ≤ b → Ex H1 H2 → tRet (tLst (tCons (tOp (rI (fun _ j => 0 < j) fun i j => .int (i % j)) (tVar 0) (tC (.int 2147483549))) (tCons (tVar 1) (tCons (tC (.int 0)) tNil)))) { nx := fun _ H' => Q .non H', rt := Q } [some (.int c), some (.int b)] H2 := fun b H2 hb e2 => by
      refine s_retL (el_lst (ea_cons (ev_mod (ev_var rfl) ev_c (by decide)) (ea_cons (ev_var rfl) (ea_cons ev_c ea_nil))) (by show 3 ≤ 100000; decide)) fun p H3 hp e3 h3 => ?_
      exact q p H3 (fresh_back (e1.trans e2) hp) ((e1.trans e2).trans e3) ⟨_, _, _, h3, Int.emod_nonneg _ (by decide), Int.emod_lt_of_pos _ (by decide), hb⟩
    refine q_when (et_or (et_test (ev_lt (ev_var rfl) ev_c)) fun _ => et_test (ev_ge (ev_var rfl) (ev_op ev_c ev_c (rv_I (show CPow 10 18 from ⟨by decide, by decide, by decide⟩))))) (fun hb H2 e2 => ?_) fun hb H2 e2 => ?_
    · refine s_asg (ev_cb (ea_cons (ev_var rfl) ea_nil) rc_abs) fun H3 e3 => fin _ H3 (by omega) (e2.trans e3)
    · exact fin 0 H2 (by decide) e2
end
end K01

namespace K01
open PySem PySem.Spec PyProof.Rows L2 Evl
section
variable {P : Program} {w : World} {K : PySem.W.Frag} {mg : Str → Option Value} {base : Heap} {f : Addr} {fd : FuncData}
theorem at0 {a b c : V} : atI [a, b, c] 0 = some a := rfl
theorem at1 {a b c : V} : atI [a, b, c] 1 = some b := rfl
theorem at2 {a b c : V} : atI [a, b, c] 2 = some c := rfl
theorem ok_take (F : FnP K "_law_take" s_l_take f fd) (T : Txt K mg) : FnOk P w K mg base CX0 1 f fd ["_law_pool_here", "_law_many"] sp_take := by
  refine F.ok sc_l_take (fun vs H Q E h => ?_) (fun cdv A outer s H vs Q E hr h => ?_)
  · obtain ⟨p, m, rfl, _⟩ := h
    rfl
  · obtain ⟨p, m, rfl, m0, m1, ⟨a, b, c, hp, a0, a1, b0⟩, k⟩ := h
    refine ⟨_, PSs.nox (pss_cons (ps_asg (pe_op op_add (pe_ix ix_list (pv 0) pe_int (fun _ _ => rfl)) pe_int) (pg_sub (pv 0) pe_int set_list))
      (pss_cons (ps_set (i := 2) sc_l_take.nd rfl (Or.inl rfl) (pe_ix ix_list (pv 0) pe_int (fun _ _ => rfl)))
      (pss_cons (ps_asg (pe_op op_mod (pe_op op_add (pe_op op_mulW (pv 2) (pe_op op_add (pe_op op_mod (pv 2) pe_int) pe_int)) (pe_op op_mul pe_int (pe_ix ix_list (pv 0) pe_int (fun _ _ => rfl)))) pe_int) (pg_sub (pv 0) pe_int set_list))
      (pss_cons (ps_if (pt_cmpR op_gt (pe_ix ix_list (pv 0) pe_int (fun _ _ => rfl)) pe_int (nomark _)) (pss_cons (ps_asg (pe_callB call_divmod (by rfl) T.b_divmod (by decide +kernel) (pa_cons (pe_ix ix_list (pv 0) pe_int (fun _ _ => rfl)) (pa_cons (pv 1) pa_nil))) (pg_tup rfl (pgs_cons (pg_sub (pv 0) pe_int set_list) (pgs_cons (pg_name (i := 3) sc_l_take.nd rfl (Or.inl rfl)) pgs_nil))))
        (pss_one (ps_ret (pv 3)))) pss_nil)
      (pss_one (ps_ret (pe_op op_mod (pe_op op_fdivW (pe_ix ix_list (pv 0) pe_int (fun _ _ => rfl)) pe_int) (pv 1)))))))), ?_⟩
    -- pool[2] = pool[2] + 1
    refine q_setL (j := 2) hp (ev_add (ev_op (ev_var rfl) ev_c (rv_ixL (sq_of hp) at2)) ev_c) (ev_var rfl) ev_c (by show 2 < 3; decide) fun H1 e1 => ?_
    have hp1 : upd H1 p (.lst [.int a, .int b, .int (c + 1)]) p = some (.lst [.int a, .int b, .int (c + 1)]) := upd_same
    have bt1 : But p H (upd H1 p (.lst [.int a, .int b, .int (c + 1)])) := (But.ex e1).trans But.upd
    show tSeq _ _ _ _ (upd H1 p (.lst [.int a, .int b, .int (c + 1)]))
    generalize upd H1 p (.lst [.int a, .int b, .int (c + 1)]) = G at *
    -- state = pool[0]
    refine q_asg (ev_op (ev_var rfl) ev_c (rv_ixL (sq_of hp1) at0)) fun H2 e2 => ?_
    have hp2 := e2 _ _ hp1
    have bt2 := bt1.trans (But.ex e2)
    have n0 : 0 ≤ a % 47017 := Int.emod_nonneg _ (by decide)
    have n1 : a % 47017 < 47017 := Int.emod_lt_of_pos _ (by decide)
    refine q_setL (j := 0) hp2 (ev_mod (ev_add (ev_mulW (n := 40) (m := 40) (ev_var rfl) (ev_add (ev_mod (ev_var rfl) ev_c (by decide)) ev_c) (by omega) (by omega)) (ev_mul ev_c (ev_op (ev_var rfl) ev_c (rv_ixL (sq_of hp2) at2)) (.inl ⟨by decide, by decide⟩))) ev_c (by decide)) (ev_var rfl) ev_c (by show 0 < 3; decide) fun H3 e3 => ?_
    have z0 := Int.emod_nonneg (a * (a % 47017 + 31013) + 90001 * (c + 1)) (show (2147483549 : Int) ≠ 0 by decide)
    have z1 := Int.emod_lt_of_pos (a * (a % 47017 + 31013) + 90001 * (c + 1)) (show (0 : Int) < 2147483549 by decide)
    show tSeq _ _ _ _ (upd H3 p (.lst [.int ((a * (a % 47017 + 31013) + 90001 * (c + 1)) % 2147483549), .int b, .int (c + 1)]))
    generalize (a * (a % 47017 + 31013) + 90001 * (c + 1)) % 2147483549 = z at *
    have hp3 : upd H3 p (.lst [.int z, .int b, .int (c + 1)]) p = some (.lst [.int z, .int b, .int (c + 1)]) := upd_same
    have bt3 : But p H (upd H3 p (.lst [.int z, .int b, .int (c + 1)])) := (bt2.trans (But.ex e3)).trans But.upd
    generalize upd H3 p (.lst [.int z, .int b, .int (c + 1)]) = G3 at *
    refine q_when (et_test (ev_gt (ev_op (ev_var rfl) ev_c (rv_ixL (sq_of hp3) at1)) ev_c)) (fun hb H4 e4 => ?_) fun hb H4 e4 => ?_
    · have hp4 := e4 _ _ hp3
      have bt4 := bt3.trans (But.ex e4)
      have hb0 : 0 < b := of_decide_eq_true hb
      refine q_asgX (x_cb (Evl.EvA.go (ea_cons (ev_op (ev_var rfl) ev_c (rv_ixL (sq_of hp4) at1)) (ea_cons (ev_var rfl) ea_nil)) fun H5 e5 => ?_))
      have hp5 := e5 _ _ hp4
      have bt5 := bt4.trans (But.ex e5)
      refine ⟨_, _, rfl, ⟨m0, m1⟩, fun r hr5 => ?_⟩
      have npr : p ≠ r := ne_of_none hp5 hr5
      have h6 : upd H5 r (.tup [.int (b / m), .int (b % m)]) p = some (.lst [.int z, .int b, .int (c + 1)]) := by
        rw [upd_ne npr]
        exact hp5
      refine ⟨r, _, rfl, st_of upd_same, rfl, _, _, rfl, ?_⟩
      refine ⟨_, rfl, p, _, 1, 1, rfl, rfl, h6, rfl, ?_⟩
      refine ⟨_, _, rfl, ?_⟩
      refine ⟨rfl, ?_⟩
      refine s_ret (ev_var rfl) fun H7 e7 => ?_
      refine k _ H7 (Int.emod_nonneg _ (by omega)) (Int.emod_lt_of_pos _ m0) ?_ ⟨_, _, _, e7 _ _ upd_same, z0, z1, Int.ediv_nonneg b0 (by omega)⟩
      exact ((bt5.trans (But.ex (Ex.new hr5))).trans But.upd).trans (But.ex e7)
    · have hp4 := e4 _ _ hp3
      have bt4 := bt3.trans (But.ex e4)
      refine s_ret (ev_mod (ev_fdivW (n := 7) (ev_op (ev_var rfl) ev_c (rv_ixL (sq_of hp4) at0)) ev_c (by decide) (by decide)) (ev_var rfl) m0) fun H5 e5 => ?_
      exact k _ H5 (Int.emod_nonneg _ (by omega)) (Int.emod_lt_of_pos _ m0) (bt4.trans (But.ex e5)) ⟨_, _, _, e5 _ _ hp4, z0, z1, b0⟩
theorem ok_low (F : FnP K "_law_low" s_l_low f fd) (T : Txt K mg) : FnOk P w K mg base CX0 1 f fd ["_law_top", "_law_under"] sp_low := by
  refine F.ok sc_l_low (fun vs H Q E h => ?_) (fun cdv A outer s H vs Q E hr h => ?_)
  · obtain ⟨t, u, rfl, _⟩ := h
    rfl
  · obtain ⟨t, u, rfl, t0, u0, uz, k⟩ := h
    refine ⟨_, PSs.nox (pss_cons (ps_par (i := 2) (j := 3) (by rfl) sc_l_low.nd rfl rfl (by decide) rfl rfl (pa_cons (pe_callB call_abs (by rfl) T.b_abs (by decide +kernel) (pa_cons (pv 0) pa_nil)) (pa_cons (pv 1) pa_nil)) (by rfl))
      (pss_cons (ps_while PassesOwn.never (pt_cmpR op_gt (pv 3) pe_int (nomark _)) (pss_one (ps_par (i := 2) (j := 3) (by rfl) sc_l_low.nd rfl rfl (by decide) rfl rfl (pa_cons (pv 3) (pa_cons (pe_op op_mod (pv 2) (pv 3)) pa_nil)) (by rfl))))
      (pss_one (ps_ret (pe_tup (pa_cons (pe_op op_fdivW (pv 0) (pv 2)) (pa_cons (pe_op op_fdivW (pv 1) (pv 2)) pa_nil))))))), ?_⟩
    refine q_par (Evl.EvA.go (ea_cons (ev_cb (ea_cons (ev_var rfl) ea_nil) rc_abs) (ea_cons (ev_var rfl) ea_nil)) fun H1 e1 => ⟨_, _, rfl, ?_⟩)
    have ta : (t.natAbs : Int) = t := by omega
    rw [ta]
    refine q_while (fun m σ' H' => Ex H H' ∧ ∃ x y : Int, σ' = [some (.int t), some (.int u), some (.int x), some (.int y)] ∧ 0 ≤ x ∧ 0 ≤ y ∧ Int.gcd x y = Int.gcd t u ∧ m = y.toNat) u.toNat ⟨e1, t, u, rfl, t0, by omega, rfl, rfl⟩ ?_
    rintro m σ' H' ⟨e, x, y, rfl, hx, hy, hg, rfl⟩
    refine ⟨_, et_test (ev_gt (ev_var rfl) ev_c), fun hb2 H1 e1 => ?_, fun hb2 H1 e1 => ?_⟩
    · have hyp : 0 < y := of_decide_eq_true hb2
      refine ⟨fun σ2 H2 => Ex H H2 ∧ σ2 = [some (.int t), some (.int u), some (.int y), some (.int (x % y))], fun σ2 H2 ⟨e2, h2⟩ => ?_, ?_⟩
      · have l1 := Int.emod_lt_of_pos x hyp
        have l2 := Int.emod_nonneg x (show y ≠ 0 by omega)
        refine ⟨(x % y).toNat, by omega, e2, y, x % y, h2, by omega, l2, ?_, rfl⟩
        rw [← hg]
        exact Tn.gcd_step x y hx hyp
      · exact (ea_cons (ev_var rfl) (ea_cons (ev_mod (ev_var rfl) (ev_var rfl) hyp) ea_nil)) H1 (Ex.refl _) _ fun H2 e2 => ⟨_, _, rfl, (e.trans e1).trans e2, rfl⟩
    · have hy0 : y = 0 := by
        have : ¬ 0 < y := of_decide_eq_false hb2
        omega
      subst hy0
      have hz : x = (Int.gcd t u : Int) := by
        rw [← hg, Int.gcd_zero_right]
        omega
      have gp : (0 : Int) < (Int.gcd t u : Int) := Tn.gcd_pos u0
      have gl : (Int.gcd t u : Int) ≤ u := Int.le_of_dvd u0 (Int.gcd_dvd_right ..)
      subst hz
      have gz : (Int.gcd t u : Int).natAbs < 2 ^ 4000 := by omega
      exact s_retU (eu_tup (ea_cons (ev_fdivW (ev_var rfl) (ev_var rfl) gp gz) (ea_cons (ev_fdivW (ev_var rfl) (ev_var rfl) gp gz) ea_nil)) (by show 2 ≤ 100000; decide)) fun p H2 hp e2 h2 => k p H2 (fresh_back (e.trans e1) hp) ((e.trans e1).trans e2) h2
end
/-! a new pair comes of an expression -/
section
variable {C : Addr} {σ : L2.St} {H : Hp} {ta : TA} {to te : TE} {t u : Int} {a b : Int × Int} {D : Ends} {vs dvs : List V}
theorem NewP.ex {H1 : Hp} {Q : VK} (k : NewP H Q a) (e : Ex H H1) : NewP H1 Q a := fun p H2 hp e2 ht => k p H2 (fresh_back e hp) (e.trans e2) ht
theorem eu_call {sp : Sp} {xs : List V} {E : XK} (h : EvA ta σ H vs) (hs : ∀ H1, Ex H H1 → ∀ Q : VK, (∀ p H2, H1 p = none → Ex H1 H2 → H2 p = some (.tup xs) → Q (.ref p) H2) → sp (vs ++ dvs) H1 Q E) : EvU (tCall sp dvs E ta) σ H xs := fun H1 e Q q =>
  h H1 e _ fun H2 e2 => hs H2 (e.trans e2) Q fun p H3 hp e3 h3 => q p H3 (fresh_back e2 hp) (e2.trans e3) h3
end
section
variable {P : Program} {w : World} {K : PySem.W.Frag} {mg : Str → Option Value} {base : Heap} {f : Addr} {fd : FuncData}
abbrev L_low (P : Program) (w : World) (K : PySem.W.Frag) (mg : Str → Option Value) (base : Heap) : Prop := Dn P w K mg base 1 "_law_low" ["_law_top", "_law_under"] sp_low
abbrev L_part (P : Program) (w : World) (K : PySem.W.Frag) (mg : Str → Option Value) (base : Heap) : Prop := Dn P w K mg base 2 "_law_part" ["_law_top", "_law_under"] sp_part
abbrev L_on (P : Program) (w : World) (K : PySem.W.Frag) (mg : Str → Option Value) (base : Heap) : Prop := Dn P w K mg base 3 "_law_on" ["_law_one", "_law_other"] (sp_pair Tn.on)
abbrev L_off (P : Program) (w : World) (K : PySem.W.Frag) (mg : Str → Option Value) (base : Heap) : Prop := Dn P w K mg base 3 "_law_off" ["_law_one", "_law_other"] (sp_pair Tn.off)
abbrev L_take (P : Program) (w : World) (K : PySem.W.Frag) (mg : Str → Option Value) (base : Heap) : Prop := Dn P w K mg base 1 "_law_take" ["_law_pool_here", "_law_many"] sp_take
abbrev L_number (P : Program) (w : World) (K : PySem.W.Frag) (mg : Str → Option Value) (base : Heap) : Prop := Dn P w K mg base 2 "_law_number" ["_law_pool_here"] sp_number
abbrev L_whole (P : Program) (w : World) (K : PySem.W.Frag) (mg : Str → Option Value) (base : Heap) : Prop := Dn P w K mg base 1 "_law_whole" ["_law_thing"] sp_is_whole
abbrev L_is (P : Program) (w : World) (K : PySem.W.Frag) (mg : Str → Option Value) (base : Heap) : Prop := Dn P w K mg base 2 "_law_is" ["_law_found", "_law_due"] (sp_is (He.ga K "Turn"))
abbrev L_signed (P : Program) (w : World) (K : PySem.W.Frag) (mg : Str → Option Value) (base : Heap) : Prop := Dn P w K mg base 3 "_law_signed" ["_law_top", "_law_under"] sp_signed
theorem ok_part (F : FnP K "_law_part" s_l_part f fd) (T : Txt K mg) (D_l_low : L_low P w K mg base) : FnOk P w K mg base CX0 2 f fd ["_law_top", "_law_under"] sp_part := by
  refine F.ok sc_l_part (fun vs H Q E h => ?_) (fun cdv A outer s H vs Q E hr h => ?_)
  · obtain ⟨t, u, rfl, _⟩ := h
    rfl
  · obtain ⟨t, u, rfl, u0, uz, k⟩ := h
    refine ⟨_, PSs.nox (pss_one (ps_ret (pe_cd D_l_low (hr.mono (by decide)) (by rfl) (pa_cons (pe_op op_mod (pv 0) (pv 1)) (pa_cons (pv 1) pa_nil))))), ?_⟩
    exact s_retU (eu_call (ea_cons (ev_mod (ev_var rfl) (ev_var rfl) u0) (ea_cons (ev_var rfl) ea_nil)) fun H1 e1 Q' q => ⟨_, _, rfl, Int.emod_nonneg _ (by omega), u0, uz, q⟩) k
theorem part_call {H : Hp} {t u : Int} {E : XK} (u0 : 0 < u) (uz : u.natAbs < 2 ^ 4000) : ∀ H1, Ex H H1 → ∀ Q : VK, (∀ p H2, H1 p = none → Ex H1 H2 → H2 p = some (.tup (tv (Tn.part t u))) → Q (.ref p) H2) → sp_part ([.int t, .int u] ++ []) H1 Q E := fun H1 e1 Q' q => ⟨t, u, rfl, u0, uz, q⟩
theorem ok_on (F : FnP K "_law_on" s_l_on f fd) (T : Txt K mg) (D_l_part : L_part P w K mg base) : FnOk P w K mg base CX0 3 f fd ["_law_one", "_law_other"] (sp_pair Tn.on) := by
  refine F.ok sc_l_on (fun vs H Q E h => ?_) (fun cdv A outer s H vs Q E hr h => ?_)
  · obtain ⟨p, q, a, b, rfl, _⟩ := h
    rfl
  · obtain ⟨p, q, a, b, rfl, hp, hq, ha, hb, k⟩ := h
    refine ⟨_, PSs.nox (pss_one (ps_ret (pe_cd D_l_part (hr.mono (by decide)) (by rfl) (pa_cons (pe_op op_add (pe_op op_mulW (pe_ix ix_tup (pv 0) pe_int (fun _ _ => rfl)) (pe_ix ix_tup (pv 1) pe_int (fun _ _ => rfl))) (pe_op op_mulW (pe_ix ix_tup (pv 1) pe_int (fun _ _ => rfl)) (pe_ix ix_tup (pv 0) pe_int (fun _ _ => rfl)))) (pa_cons (pe_op op_mulW (pe_ix ix_tup (pv 0) pe_int (fun _ _ => rfl)) (pe_ix ix_tup (pv 1) pe_int (fun _ _ => rfl))) pa_nil))))), ?_⟩
    have s1 : Ev (tOp (rIxT K) (tVar 0) (tC (.int 0))) [some (.ref p), some (.ref q)] H (.int a.1) := ev_ixT (j := 0) (ev_var rfl) hp rfl
    have s2 : Ev (tOp (rIxT K) (tVar 0) (tC (.int 1))) [some (.ref p), some (.ref q)] H (.int a.2) := ev_ixT (j := 1) (ev_var rfl) hp rfl
    have o1 : Ev (tOp (rIxT K) (tVar 1) (tC (.int 0))) [some (.ref p), some (.ref q)] H (.int b.1) := ev_ixT (j := 0) (ev_var rfl) hq rfl
    have o2 : Ev (tOp (rIxT K) (tVar 1) (tC (.int 1))) [some (.ref p), some (.ref q)] H (.int b.2) := ev_ixT (j := 1) (ev_var rfl) hq rfl
    exact s_retU (eu_call (ea_cons (ev_add (ev_mulW s1 o2 ha.b1 hb.b2) (ev_mulW o1 s2 hb.b1 ha.b2)) (ea_cons (ev_mulW s2 o2 ha.b2 hb.b2) ea_nil)) (part_call (Int.mul_pos ha.1.pos hb.1.pos) (pow_up (pow_mul ha.b2 hb.b2) (by decide)))) k
theorem ok_off (F : FnP K "_law_off" s_l_off f fd) (T : Txt K mg) (D_l_part : L_part P w K mg base) : FnOk P w K mg base CX0 3 f fd ["_law_one", "_law_other"] (sp_pair Tn.off) := by
  refine F.ok sc_l_off (fun vs H Q E h => ?_) (fun cdv A outer s H vs Q E hr h => ?_)
  · obtain ⟨p, q, a, b, rfl, _⟩ := h
    rfl
  · obtain ⟨p, q, a, b, rfl, hp, hq, ha, hb, k⟩ := h
    refine ⟨_, PSs.nox (pss_one (ps_ret (pe_cd D_l_part (hr.mono (by decide)) (by rfl) (pa_cons (pe_op op_sub (pe_op op_mulW (pe_ix ix_tup (pv 0) pe_int (fun _ _ => rfl)) (pe_ix ix_tup (pv 1) pe_int (fun _ _ => rfl))) (pe_op op_mulW (pe_ix ix_tup (pv 1) pe_int (fun _ _ => rfl)) (pe_ix ix_tup (pv 0) pe_int (fun _ _ => rfl)))) (pa_cons (pe_op op_mulW (pe_ix ix_tup (pv 0) pe_int (fun _ _ => rfl)) (pe_ix ix_tup (pv 1) pe_int (fun _ _ => rfl))) pa_nil))))), ?_⟩
    have s1 : Ev (tOp (rIxT K) (tVar 0) (tC (.int 0))) [some (.ref p), some (.ref q)] H (.int a.1) := ev_ixT (j := 0) (ev_var rfl) hp rfl
    have s2 : Ev (tOp (rIxT K) (tVar 0) (tC (.int 1))) [some (.ref p), some (.ref q)] H (.int a.2) := ev_ixT (j := 1) (ev_var rfl) hp rfl
    have o1 : Ev (tOp (rIxT K) (tVar 1) (tC (.int 0))) [some (.ref p), some (.ref q)] H (.int b.1) := ev_ixT (j := 0) (ev_var rfl) hq rfl
    have o2 : Ev (tOp (rIxT K) (tVar 1) (tC (.int 1))) [some (.ref p), some (.ref q)] H (.int b.2) := ev_ixT (j := 1) (ev_var rfl) hq rfl
    exact s_retU (eu_call (ea_cons (ev_sub (ev_mulW s1 o2 ha.b1 hb.b2) (ev_mulW o1 s2 hb.b1 ha.b2)) (ea_cons (ev_mulW s2 o2 ha.b2 hb.b2) ea_nil)) (part_call (Int.mul_pos ha.1.pos hb.1.pos) (pow_up (pow_mul ha.b2 hb.b2) (by decide)))) k
theorem ok_signed (F : FnP K "_law_signed" s_l_signed f fd) (T : Txt K mg) (D_l_part : L_part P w K mg base) : FnOk P w K mg base CX0 3 f fd ["_law_top", "_law_under"] sp_signed := by
  refine F.ok sc_l_signed (fun vs H Q E h => ?_) (fun cdv A outer s H vs Q E hr h => ?_)
  · obtain ⟨t, u, rfl, _⟩ := h
    rfl
  · obtain ⟨t, u, rfl, u0, uz, k⟩ := h
    refine ⟨_, PSs.nox (pss_cons (ps_if (pt_cmpR op_lt (pv 1) pe_int (nomark _)) (pss_one (ps_ret (pe_cd D_l_part (hr.mono (by decide)) (by rfl) (pa_cons (pe_op op_sub pe_int (pv 0)) (pa_cons (pe_op op_sub pe_int (pv 1)) pa_nil))))) pss_nil)
      (pss_one (ps_ret (pe_cd D_l_part (hr.mono (by decide)) (by rfl) (pa_cons (pv 0) (pa_cons (pv 1) pa_nil)))))), ?_⟩
    refine q_when (et_test (ev_lt (ev_var rfl) ev_c)) (fun hb H1 e1 => ?_) fun hb H1 e1 => ?_
    · have hu : u < 0 := of_decide_eq_true hb
      have k1 := k.ex e1
      unfold Tn.sgn at k1
      rw [if_pos hu, ← Int.zero_sub t, ← Int.zero_sub u] at k1
      exact s_retU (eu_call (ea_cons (ev_sub ev_c (ev_var rfl)) (ea_cons (ev_sub ev_c (ev_var rfl)) ea_nil)) (part_call (by omega) (by omega))) k1
    · have hu : ¬ u < 0 := of_decide_eq_false hb
      have k1 := k.ex e1
      unfold Tn.sgn at k1
      rw [if_neg hu] at k1
      exact s_retU (eu_call (ea_cons (ev_var rfl) (ea_cons (ev_var rfl) ea_nil)) (part_call (by omega) uz)) k1
theorem ok_is (F : FnP K "_law_is" s_l_is f fd) (T : Txt K mg) (D_l_whole : L_whole P w K mg base) : FnOk P w K mg base CX0 2 f fd ["_law_found", "_law_due"] (sp_is (He.ga K "Turn")) := by
  refine F.ok sc_l_is (fun vs H Q E h => ?_) (fun cdv A outer s H vs Q E hr h => ?_)
  · obtain ⟨x, q, a, rfl, _⟩ := h
    rfl
  · obtain ⟨x, q, a, rfl, ⟨dx, hx⟩, hq, k⟩ := h
    refine ⟨_, PSs.nox (pss_cons (ps_if (PW.pt (pw_or (pt_not (pt_val (pe_callB call_isi (by rfl) T.b_isinstance (by decide +kernel) (pa_cons (pv 0) (pa_cons (pe_glob (v := .ref (He.ga K "Turn")) (by rfl) T.g_Turn rfl) pa_nil))))) (pw_or (pt_not (pt_val (pe_cd D_l_whole (hr.mono (by decide)) (by rfl) (pa_cons (pe_fld (pv 0) rfl) pa_nil)))) (pw_or1 (pt_not (pt_val (pe_cd D_l_whole (hr.mono (by decide)) (by rfl) (pa_cons (pe_fld (pv 0) rfl) pa_nil)))))))) (pss_one (ps_ret pe_bl)) pss_nil)
      (pss_one (ps_ret (pe_cmpR (op_eqD hr.units) (pe_tup (pa_cons (pe_fld (pv 0) rfl) (pa_cons (pe_fld (pv 0) rfl) pa_nil))) (pv 1) (nomark _))))), ?_⟩
    have wh : ∀ {i : Int} {H0 : Hp}, SpV sp_is_whole [.int i] H0 (.bl true) := fun {i H0} H1 e Q' q E' => ⟨i, rfl, q⟩
    have s1 : ∀ H1, Ex H H1 → Ev (tFld K (tVar 0) "top") [some (.ref x), some (.ref q)] H1 (.int a.1) := fun H1 e => ev_fld (ev_var rfl) (e _ _ hx) T.cl_Turn T.no_top (tf_top a)
    have s2 : ∀ H1, Ex H H1 → Ev (tFld K (tVar 0) "bottom") [some (.ref x), some (.ref q)] H1 (.int a.2) := fun H1 e => ev_fld (ev_var rfl) (e _ _ hx) T.cl_Turn T.no_bottom (tf_bottom a)
    refine q_when (b := false) (et_or (et_not (et_B (ev_cb (ea_cons (ev_var rfl) (ea_cons ev_c ea_nil)) (rc_isiC hx T.cl_Turn T.is_Turn)))) fun _ => et_or (et_not (et_B (ev_call (ea_cons (s1 H (Ex.refl _)) ea_nil) wh))) fun _ => et_not (et_B (ev_call (ea_cons (s2 H (Ex.refl _)) ea_nil) wh))) (fun hb => nomatch hb) fun _ H1 e1 => ?_
    refine x_ret (x_op (Evl.EvU.go (eu_tup (ea_cons (s1 H1 e1) (ea_cons (s2 H1 e1) ea_nil)) (by show 2 ≤ 100000; decide)) fun p H2 hp e2 h2 => ?_))
    refine ⟨_, rfl, .tuple [.int a.1, .int a.2], .tuple [.int a.1, .int a.2], .tup (st_of h2) (.cons (.int _) (.cons (.int _) .nil)), .tup (st_of ((e1.trans e2) _ _ hq)) (.cons (.int _) (.cons (.int _) .nil)), rfl, rfl, ?_⟩
    show Q (.bl (PyData.eqv (.tuple [.int a.1, .int a.2]) (.tuple [.int a.1, .int a.2]))) H2
    rw [SeqAt.eqv_refl]
    · exact k H2 (e1.trans e2)
    · rfl
end
end K01

namespace K01
open PySem PySem.Spec PyProof.Rows L2 Evl
/-! what comes of an expression: an object of which P holds, whatever is added to the heap -/
def EvR (te : TE) (σ : L2.St) (H : Hp) (P : Addr → Hp → Prop) : Prop := ∀ H1, Ex H H1 → ∀ Q : VK, (∀ p H2, Ex H1 H2 → P p H2 → Q (.ref p) H2) → te σ H1 Q
abbrev PT (C : Addr) (a : Int × Int) : Addr → Hp → Prop := fun p H => TurnAt C H p a
abbrev PP (a : Int × Int) : Addr → Hp → Prop := fun p H => H p = some (.tup (tv a))
section
variable {C : Addr} {K : PySem.W.Frag} {σ : L2.St} {H H' : Hp} {ta : TA} {to te ty tu : TE} {t u m : Int} {a b : Int × Int} {D : Ends} {vs dvs : List V} {p : Addr} {i : Nat} {P : Addr → Hp → Prop} {Q : VK}
theorem er_var (h : σ[i]? = some (some (.ref p))) (hp : ∀ H1, Ex H H1 → P p H1) : EvR (tVar i) σ H P := fun H1 e _ q => ⟨.ref p, h, q p H1 (Ex.refl _) (hp H1 e)⟩
theorem er_turn (h : σ[i]? = some (some (.ref p))) (hp : TurnAt C H p a) : EvR (tVar i) σ H (PT C a) := er_var h fun _ e => hp.ex e
theorem er_pair (h : σ[i]? = some (some (.ref p))) (hp : H p = some (.tup (tv a))) : EvR (tVar i) σ H (PP a) := er_var h fun _ e => e _ _ hp
theorem er_tn (h : EvTn C te σ H a) : EvR te σ H (PT C a) := fun H1 e Q q => h H1 e Q fun p H2 _ e2 ht => q p H2 e2 ht
theorem er_u (h : EvU te σ H (tv a)) : EvR te σ H (PP a) := fun H1 e Q q => h H1 e Q fun p H2 _ e2 ht => q p H2 e2 ht
theorem EvR.mono (e : Ex H H') (h : EvR te σ H P) : EvR te σ H' P := fun H1 e1 Q q => h H1 (e.trans e1) Q q
theorem EvR.is (h : EvR te σ H (PT C a)) (e : a = b) : EvR te σ H (PT C b) := e ▸ h
theorem EvR.go (h : EvR te σ H P) (k : ∀ p H1, Ex H H1 → P p H1 → Q (.ref p) H1) : te σ H Q := h H (Ex.refl _) _ k
theorem ev_is (h1 : EvR te σ H (PT C a)) (h2 : EvR tu σ H (PP a)) : Ev (tCall (sp_is C) [] E0 (tCons te (tCons tu tNil))) σ H (.bl true) := fun H1 e Q q =>
  h1 H1 e _ fun p H2 e2 hp => h2 H2 (e.trans e2) _ fun r H3 e3 hr => ⟨p, r, a, rfl, TurnAt.ex hp e3, hr, fun H4 e4 => q H4 ((e2.trans e3).trans e4)⟩
theorem et_is1 (h1 : EvR te σ H (PT C a)) (h2 : EvR tu σ H (PP a)) : EvT (tNot (tB (tCall (sp_is C) [] E0 (tCons te (tCons tu tNil))))) σ H false := et_not (et_B (ev_is h1 h2))
theorem er_m2 {mn : Str} {g : Int × Int → Int × Int → Int × Int} (h1 : EvR to σ H (PT C a)) (h2 : EvR ty σ H (PT C b)) (ha : Sm a) (hb : Sm b) (n1 : ¬ mn = "top" := by decide +kernel) (n2 : ¬ mn = "bottom" := by decide +kernel) :
    EvR (tMeth C mn (sp_two C g) [] E0 to (tCons ty tNil)) σ H (PT C (g a b)) := fun H1 e Q q =>
  h1 H1 e _ fun p H2 e2 hp => by
    obtain ⟨dx, hx⟩ := id hp
    exact ⟨p, dx, _, rfl, hx, tf_no a n1 n2, h2 H2 (e.trans e2) _ fun r H3 e3 hr => ⟨p, r, a, b, rfl, TurnAt.ex hp e3, hr, ha, hb, fun x H4 _ e4 ht => q x H4 ((e2.trans e3).trans e4) ht⟩⟩
theorem er_times (h1 : EvR to σ H (PT C a)) (h2 : Ev ty σ H (.int m)) (ha : Sm a) (hm : m.natAbs < 2 ^ 400) : EvR (tMeth C "times" (sp_times C) [] E0 to (tCons ty tNil)) σ H (PT C (Tn.part (a.1 * m) a.2)) := fun H1 e Q q =>
  h1 H1 e _ fun p H2 e2 hp => by
    obtain ⟨dx, hx⟩ := id hp
    exact ⟨p, dx, _, rfl, hx, tf_no a (by decide +kernel) (by decide +kernel), h2 H2 (e.trans e2) _ fun H3 e3 => ⟨p, a, m, rfl, TurnAt.ex hp e3, ha, hm, fun x H4 _ e4 ht => q x H4 ((e2.trans e3).trans e4) ht⟩⟩
theorem er_opp (h1 : EvR to σ H (PT C a)) (ha : Sm a) : EvR (tMeth C "opposite" (sp_opposite C) [] E0 to tNil) σ H (PT C (Tn.on a Tn.half)) := fun H1 e Q q =>
  h1 H1 e _ fun p H2 e2 hp => by
    obtain ⟨dx, hx⟩ := id hp
    exact ⟨p, dx, _, rfl, hx, tf_no a (by decide +kernel) (by decide +kernel), ⟨p, a, rfl, hp, ha, fun x H4 _ e4 ht => q x H4 (e2.trans e4) ht⟩⟩
theorem er_pairs {g : Int × Int → Int × Int → Int × Int} (h1 : EvR to σ H (PP a)) (h2 : EvR ty σ H (PP b)) (ha : Sm a) (hb : Sm b) : EvR (tCall (sp_pair g) [] E0 (tCons to (tCons ty tNil))) σ H (PP (g a b)) := fun H1 e Q q =>
  h1 H1 e _ fun p H2 e2 hp => h2 H2 (e.trans e2) _ fun r H3 e3 hr => ⟨p, r, a, b, rfl, e3 _ _ hp, hr, ha, hb, fun x H4 _ e4 ht => q x H4 ((e2.trans e3).trans e4) ht⟩
theorem er_part (h1 : Ev to σ H (.int t)) (h2 : Ev ty σ H (.int u)) (u0 : 0 < u) (uz : u.natAbs < 2 ^ 4000) : EvR (tCall sp_part [] E0 (tCons to (tCons ty tNil))) σ H (PP (Tn.part t u)) := fun H1 e Q q =>
  h1 H1 e _ fun H2 e2 => h2 H2 (e.trans e2) _ fun H3 e3 => ⟨t, u, rfl, u0, uz, fun x H4 _ e4 ht => q x H4 ((e2.trans e3).trans e4) ht⟩
theorem er_signed (h1 : Ev to σ H (.int t)) (h2 : Ev ty σ H (.int u)) (u0 : u ≠ 0) (uz : u.natAbs < 2 ^ 4000) : EvR (tCall sp_signed [] E0 (tCons to (tCons ty tNil))) σ H (PP (Tn.sgn t u)) := fun H1 e Q q =>
  h1 H1 e _ fun H2 e2 => h2 H2 (e.trans e2) _ fun H3 e3 => ⟨t, u, rfl, u0, uz, fun x H4 _ e4 ht => q x H4 ((e2.trans e3).trans e4) ht⟩
theorem er_tup2 {x y : Int} : EvR (tTup (tCons (tC (.int x)) (tCons (tC (.int y)) tNil))) σ H (PP (x, y)) := er_u (eu_tup (ea_cons ev_c (ea_cons ev_c ea_nil)) (by show 2 ≤ 100000; decide))
theorem pool_ex (h : Pool H p) (e : Ex H H') : Pool H' p := by
  obtain ⟨a, b, c, hp, q⟩ := h
  exact ⟨a, b, c, e _ _ hp, q⟩
theorem pool_ne {r : Addr} (h : Pool H p) (hr : H r = none) : r ≠ p := by
  obtain ⟨a, b, c, hp, q⟩ := h
  exact (ne_of_none hp hr).symm
theorem take_go {E : XK} (hσ : σ[i]? = some (some (.ref p))) (hp : Pool H p) (m0 : 0 < m) (m1 : m < 1073741824) (k : ∀ (d : Int) H2, 0 ≤ d → d < m → But p H H2 → Pool H2 p → Q (.int d) H2) : tCall sp_take [] E (tCons (tVar i) (tCons (tC (.int m)) tNil)) σ H Q :=
  ⟨.ref p, hσ, p, m, rfl, m0, m1, hp, k⟩
theorem number_go {E : XK} (hσ : σ[i]? = some (some (.ref p))) (hp : Pool H p) (k : ∀ (n : Int) H2, n.natAbs < 2 ^ 90 → But p H H2 → Pool H2 p → Q (.int n) H2) : tCall sp_number [] E (tCons (tVar i) tNil) σ H Q :=
  ⟨.ref p, hσ, p, rfl, hp, k⟩
theorem draw_go {E : XK} (hσ : σ[i]? = some (some (.ref p))) (hp : Pool H p) (k : ∀ (r : Addr) (a : Int × Int) H2, H r = none → Dr a → But p H H2 → Pool H2 p → H2 r = some (.tup (tv a)) → Q (.ref r) H2) : tCall sp_draw [] E (tCons (tVar i) tNil) σ H Q :=
  ⟨.ref p, hσ, p, rfl, hp, k⟩
/-- an item of a list of ints -/
theorem at_ints {L : List Int} {j : Int} (h0 : 0 ≤ j) (h1 : j < L.length) : ∃ v ∈ L, atI (L.map V.int) j = some (.int v) := by
  obtain ⟨n, rfl⟩ := Int.eq_ofNat_of_zero_le h0
  have hn : n < L.length := by omega
  exact ⟨L[n], List.getElem_mem hn, atI_nat (by rw [List.getElem?_map, List.getElem?_eq_getElem hn]; rfl)⟩
end
section
variable {P : Program} {w : World} {K : PySem.W.Frag} {mg : Str → Option Value} {base : Heap} {f : Addr} {fd : FuncData}
theorem ok_number (F : FnP K "_law_number" s_l_number f fd) (T : Txt K mg) (D_l_take : L_take P w K mg base) : FnOk P w K mg base CX0 2 f fd ["_law_pool_here"] sp_number := by
  refine F.ok sc_l_number (fun vs H Q E h => ?_) (fun cdv A outer s H vs Q E hr h => ?_)
  · obtain ⟨p, rfl, _⟩ := h
    rfl
  · obtain ⟨p, rfl, hp, k⟩ := h
    refine ⟨_, PSs.nox (pss_cons (ps_set (i := 1) sc_l_number.nd rfl (Or.inl rfl) (pe_cd D_l_take (hr.mono (by decide)) (by rfl) (pa_cons (pv 0) (pa_cons pe_int pa_nil))))
      (pss_cons (ps_set (i := 2) sc_l_number.nd rfl (Or.inl rfl) (pe_ix ix_list (pe_lst (pa_cons pe_int (pa_cons pe_int (pa_cons (pe_cd D_l_take (hr.mono (by decide)) (by rfl) (pa_cons (pv 0) (pa_cons pe_int pa_nil))) (pa_cons (pe_cd D_l_take (hr.mono (by decide)) (by rfl) (pa_cons (pv 0) (pa_cons pe_int pa_nil))) pa_nil))))) (pe_op op_mod (pv 1) pe_int) (fun _ _ => rfl)))
      (pss_cut (ps_if (pt_cmpR op_gt (pv 1) pe_int (nomark _)) (pss_cons (ps_set (i := 2) sc_l_number.nd rfl (Or.inl rfl) pe_int)
        (pss_one (ps_for PassesOwn.never rfl (pi_range1 (by rfl) T.b_range (pa_cons (pe_ix ix_list (pe_lst (pa_cons pe_int (pa_cons pe_int (pa_cons pe_int pa_nil)))) (pe_op op_sub (pv 1) pe_int) (fun _ _ => rfl)) pa_nil)) (pg_name (i := 3) sc_l_number.nd rfl (Or.inl rfl)) (pss_one (ps_set (i := 2) sc_l_number.nd rfl (Or.inl rfl) (pe_op op_add (pe_op op_mulW (pv 2) pe_int) (pe_cd D_l_take (hr.mono (by decide)) (by rfl) (pa_cons (pv 0) (pa_cons pe_int pa_nil))))))))) pss_nil)
      (pss_one (ps_ret (pe_op op_mulW (pv 2) (pe_ix ix_list (pe_lst (pa_cons pe_int (pa_cons (pe_un un_neg pe_int) pa_nil))) (pe_cd D_l_take (hr.mono (by decide)) (by rfl) (pa_cons (pv 0) (pa_cons pe_int pa_nil))) (fun _ _ => rfl)))))))), ?_⟩
    refine q_set (take_go rfl hp (by decide) (by decide) fun way H1 w0 w1 b1 p1 => ?_)
    refine q_set (x_op (x_lst (x_cons (x_c (x_cons (x_c (x_cons (take_go rfl p1 (by decide) (by decide) fun d2 H2 c0 c1 b2 p2 => ?_))))))))
    refine x_cons (take_go rfl p2 (by decide) (by decide) fun d3 H3 g0 g1 b3 p3 => x_nil ⟨by show 4 ≤ sizeLine; decide, fun r hr3 => ?_⟩)
    have wm0 : 0 ≤ way % 4 := Int.emod_nonneg _ (by decide)
    have wm1 : way % 4 < 4 := Int.emod_lt_of_pos _ (by decide)
    refine Evl.Ev.go (ev_mod (ev_var rfl) ev_c (by decide)) fun H4 e4 => ?_
    obtain ⟨v, hv, ha⟩ := at_ints (L := [0, 1, d2, d3]) wm0 wm1
    have b4 : But p H H4 := (((b1.trans b2).trans b3).trans (But.ex (Ex.new hr3))).trans (But.ex e4)
    have p4 : Pool H4 p := pool_ex p3 ((Ex.new hr3).trans e4)
    have v0 : 0 ≤ v ∧ v < 100 := by
      simp only [List.mem_cons, List.mem_nil_iff, or_false] at hv
      rcases hv with rfl | rfl | rfl | rfl <;> constructor <;> omega
    refine ⟨r, _, _, _, rfl, rfl, sq_of (e4 _ _ upd_same), ha, ?_⟩
    refine q_cut (M := fun σ' H' => ∃ (n : Int) (tn : Option V), σ' = [some (.ref p), some (.int way), some (.int n), tn] ∧ 0 ≤ n ∧ n < 1000003 ^ 4 ∧ But p H H' ∧ Pool H' p) ?_ ?_
    · refine s_when (et_test (ev_gt (ev_var rfl) ev_c)) (fun hb H5 e5 => ?_) fun hb H5 e5 => ?_
      · have hw : 3 < way := of_decide_eq_true hb
        refine q_asg ev_c fun H6 e6 => ?_
        have e56 := e5.trans e6
        have r0 : 0 ≤ way - 4 := by omega
        have r1 : way - 4 < 3 := by omega
        obtain ⟨n, hn, hat⟩ := at_ints (L := [1, 3, 4]) r0 r1
        have n0 : 1 ≤ n ∧ n ≤ 4 := by
          simp only [List.mem_cons, List.mem_nil_iff, or_false] at hn
          omega
        have ent : Ev (tOp (rIxL K) (tLst (tCons (tC (.int 1)) (tCons (tC (.int 3)) (tCons (tC (.int 4)) tNil)))) (tOp (rI0 fun i j => .int (i - j)) (tVar 1) (tC (.int 4)))) [some (.ref p), some (.int way), some (.int 0), none] H6 (.int n) :=
          ev_opL1 (el_lst (ea_cons ev_c (ea_cons ev_c (ea_cons ev_c ea_nil))) (by show 3 ≤ 100000; decide)) (fun H7 _ => ev_sub (ev_var rfl) ev_c) fun l H7 hl _ => rv_ixL (sq_of hl) hat
        refine s_forR1 (D := { nx := _, rt := _ }) (n := n) (ea_cons ent ea_nil) (by omega) (fun i σ' H' => ∃ (z : Int) (tn : Option V), σ' = [some (.ref p), some (.int way), some (.int z), tn] ∧ 0 ≤ z ∧ z < 1000003 ^ i ∧ But p H H' ∧ Pool H' p) (fun H7 e7 => ⟨0, none, rfl, by decide, by decide, b4.trans (But.ex (e56.trans e7)), pool_ex p4 (e56.trans e7)⟩) ?_ ?_
        · rintro i σ' H' hi ⟨z, tn, rfl, z0, z1, bz, pz⟩
          have zb : (1000003 : Int) ^ i ≤ 1000003 ^ 3 := by
            have : i = 0 ∨ i = 1 ∨ i = 2 ∨ i = 3 := by omega
            rcases this with rfl | rfl | rfl | rfl <;> decide
          have zs : z.natAbs < 2 ^ 80 := by
            have : (1000003 : Int) ^ 3 < 2 ^ 80 := by decide
            omega
          refine x_set (x_op (Evl.Ev.go (ev_mulW (m := 20) (ev_var rfl) ev_c zs (by decide)) fun H7 e7 => ?_))
          refine take_go rfl (pool_ex pz e7) (by decide) (by decide) fun d H8 d0 d1 b8 p8 => ⟨_, _, rfl, rfl, ?_⟩
          refine ⟨z * 1000003 + d, _, rfl, by omega, ?_, (bz.trans (But.ex e7)).trans b8, p8⟩
          rw [Int.pow_succ]
          have := Int.mul_le_mul_of_nonneg_right (show z + 1 ≤ 1000003 ^ i by omega) (show (0 : Int) ≤ 1000003 by decide)
          omega
        · rintro σ' H' ⟨z, tn, rfl, z0, z1, bz, pz⟩
          refine ⟨z, tn, rfl, z0, ?_, bz, pz⟩
          have : n.toNat = 1 ∨ n.toNat = 2 ∨ n.toNat = 3 ∨ n.toNat = 4 := by omega
          have q : (1000003 : Int) ^ n.toNat ≤ 1000003 ^ 4 := by
            rcases this with e | e | e | e <;> rw [e] <;> decide
          omega
      · refine ⟨v, none, rfl, v0.1, ?_, b4.trans (But.ex e5), pool_ex p4 e5⟩
        have : (100 : Int) < 1000003 ^ 4 := by decide
        omega
    · rintro σ' H' ⟨n, tn, rfl, n0, n1, bn, pn⟩
      have nz : n.natAbs < 2 ^ 80 := by
        have : (1000003 : Int) ^ 4 < 2 ^ 80 := by decide
        omega
      refine x_ret (x_op (x_var rfl (x_op (Evl.EvL.go (el_lst (ea_cons ev_c (ea_cons (ev_neg ev_c) ea_nil)) (by show 2 ≤ 100000; decide)) fun l H5 hl e5 h5 => ?_))))
      refine take_go rfl (pool_ex pn e5) (by decide) (by decide) fun d H6 d0 d1 b6 p6 => ?_
      obtain ⟨v2, hv2, hat⟩ := at_ints (L := [1, -1]) d0 d1
      refine ⟨l, _, d, _, rfl, rfl, sq_of (b6 _ _ (pool_ne pn hl) h5), hat, ?_⟩
      have vz : v2 = 1 ∨ v2 = -1 := by
        simp only [List.mem_cons, List.mem_nil_iff, or_false] at hv2
        exact hv2
      have vb : v2.natAbs < 2 ^ 1 := by omega
      refine ⟨n, v2, rfl, rfl, wide_mul nz vb (by decide) (by decide) (by decide), ?_⟩
      refine k _ H6 (pow_up (pow_mul nz vb) (by decide)) ((bn.trans (But.ex e5)).trans b6) p6
theorem ok_two (F : FnP K "_law_two" s_l_two f fd) (T : Txt K mg) (D_l_take : L_take P w K mg base) (D_l_number : L_number P w K mg base) : FnOk P w K mg base CX0 3 f fd ["_law_pool_here"] sp_draw := by
  refine F.ok sc_l_two (fun vs H Q E h => ?_) (fun cdv A outer s H vs Q E hr h => ?_)
  · obtain ⟨p, rfl, _⟩ := h
    rfl
  · obtain ⟨p, rfl, hp, k⟩ := h
    refine ⟨_, PSs.nox (pss_cons (ps_par (i := 1) (j := 2) (by rfl) sc_l_two.nd rfl rfl (by decide) rfl rfl (pa_cons (pe_cd D_l_number (hr.mono (by decide)) (by rfl) (pa_cons (pv 0) pa_nil)) (pa_cons (pe_cd D_l_number (hr.mono (by decide)) (by rfl) (pa_cons (pv 0) pa_nil)) pa_nil)) (by rfl))
      (pss_cut (ps_if (pt_cmpR op_eq (pv 2) pe_int (nomark _)) (pss_one (ps_set (i := 2) sc_l_two.nd rfl (Or.inl rfl) (pe_ix ix_list (pe_lst (pa_cons pe_int (pa_cons (pe_un un_neg pe_int) (pa_cons pe_int pa_nil)))) (pe_cd D_l_take (hr.mono (by decide)) (by rfl) (pa_cons (pv 0) (pa_cons pe_int pa_nil))) (fun _ _ => rfl)))) pss_nil)
      (pss_cut (ps_if (pt_cmpR op_eq (pe_cd D_l_take (hr.mono (by decide)) (by rfl) (pa_cons (pv 0) (pa_cons pe_int pa_nil))) pe_int (nomark _)) (pss_one (ps_set (i := 1) sc_l_two.nd rfl (Or.inl rfl) (pe_op op_mulW (pv 2) (pe_op op_sub (pe_cd D_l_take (hr.mono (by decide)) (by rfl) (pa_cons (pv 0) (pa_cons pe_int pa_nil))) pe_int)))) pss_nil)
      (pss_one (ps_ret (pe_tup (pa_cons (pv 1) (pa_cons (pv 2) pa_nil)))))))), ?_⟩
    refine q_par (x_cons (number_go rfl hp fun t H1 tz b1 p1 => x_cons (number_go rfl p1 fun u H2 uz b2 p2 => x_nil ⟨_, _, rfl, ?_⟩)))
    refine q_cut (M := fun σ' H' => ∃ t u : Int, σ' = [some (.ref p), some (.int t), some (.int u)] ∧ Dr (t, u) ∧ But p H H' ∧ Pool H' p) ?_ ?_
    · refine s_when (et_test (ev_eqI (ev_var rfl) ev_c)) (fun hb H3 e3 => ?_) fun hb H3 e3 => ?_
      · refine x_set (x_op (Evl.EvL.go (el_lst (ea_cons ev_c (ea_cons (ev_neg ev_c) (ea_cons ev_c ea_nil))) (by show 3 ≤ 100000; decide)) fun l H5 hl e5 h5 => ?_))
        refine take_go rfl (pool_ex p2 (e3.trans e5)) (by decide) (by decide) fun d H6 d0 d1 b6 p6 => ?_
        obtain ⟨v2, hv2, hat⟩ := at_ints (L := [1, -1, 12]) d0 d1
        refine ⟨l, _, d, _, rfl, rfl, sq_of (b6 _ _ (pool_ne (pool_ex p2 e3) hl) h5), hat, ?_⟩
        have vz : v2 = 1 ∨ v2 = -1 ∨ v2 = 12 := by
          simp only [List.mem_cons, List.mem_nil_iff, or_false] at hv2
          exact hv2
        refine ⟨t, v2, rfl, ⟨by show v2 ≠ 0; omega, by show v2.natAbs < 2 ^ 90; omega⟩, ((b1.trans b2).trans (But.ex (e3.trans e5))).trans b6, p6⟩
      · have hu : u ≠ 0 := of_decide_eq_false hb
        exact ⟨t, u, rfl, ⟨hu, uz⟩, (b1.trans b2).trans (But.ex e3), pool_ex p2 e3⟩
    · rintro σ' H' ⟨t, u, rfl, hd, bd, pd⟩
      refine q_cut (M := fun σ' H' => ∃ t u : Int, σ' = [some (.ref p), some (.int t), some (.int u)] ∧ Dr (t, u) ∧ But p H H' ∧ Pool H' p) ?_ ?_
      · refine x_if (x_test (x_op (take_go rfl pd (by decide) (by decide) fun d H3 d0 d1 b3 p3 => x_c ⟨rfl, _, rfl, ?_⟩)))
        refine ite2 (fun _ => ?_) fun _ => ⟨t, u, rfl, hd, bd.trans b3, p3⟩
        refine x_set (x_op (x_var rfl (x_op (take_go rfl p3 (by decide) (by decide) fun d2 H4 c0 c1 b4 p4 => x_c ⟨_, _, rfl, rfl, _, _, rfl, rfl, wide_mul hd.2 (b := 10) (by omega) (by decide) (by decide) (by decide), ?_⟩))))
        exact ⟨_, u, rfl, hd, (bd.trans b3).trans b4, p4⟩
      · rintro σ' H' ⟨t, u, rfl, hd, bd, pd⟩
        refine x_ret (Evl.EvU.go (eu_tup (ea_cons (ev_var rfl) (ea_cons (ev_var rfl) ea_nil)) (by show 2 ≤ 100000; decide)) fun r H3 hr3 e3 h3 => ?_)
        refine k r (t, u) H3 ?_ hd (bd.trans (But.ex e3)) (pool_ex pd e3) h3
        cases q : H r with
        | none => rfl
        | some o =>
          have : H' r = some o := bd r o (pool_ne pd hr3) q
          rw [hr3] at this
          cases this
end
end K01

namespace K01
open PySem PySem.Spec PyProof.Rows L2 Evl
/-- so small that two of them together are small -/
def Sn (n : Nat) (a : Int × Int) : Prop := Tn.Can a ∧ a.2.natAbs < 2 ^ n
theorem Sn.sm {n : Nat} {a : Int × Int} (h : Sn n a) (hn : n ≤ 400 := by decide) : Sm a := ⟨h.1, by
  have h1 := pow_big h.2 hn
  have h2 := h.1.pos
  have h3 : ((2 ^ 400 : Nat) : Int) = 2 ^ 400 := Int.natCast_pow 2 400
  rw [← h3]
  omega⟩
theorem sn_sgn {a : Int × Int} (h : Dr a) : Sn 91 (Tn.sgn a.1 a.2) := ⟨Tn.sgn_can h.1, by
  have h1 := Tn.sgn_le (t := a.1) h.1
  have h2 := (Tn.sgn_can (t := a.1) h.1).pos
  have h3 : a.2.natAbs < 2 ^ 91 := pow_big h.2 (by decide)
  omega⟩
theorem sn_le {t u : Int} {n : Nat} (hu : 0 < u) (hz : u.natAbs < 2 ^ n) : Sn n (Tn.part t u) := ⟨Tn.part_can hu, by
  have h1 := Tn.part_le (t := t) hu
  have h2 := (Tn.part_can (t := t) hu).pos
  omega⟩
theorem sn_on {a b : Int × Int} {n m : Nat} (ha : Sn n a) (hb : Sn m b) : Sn (n + m) (Tn.on a b) := sn_le (Int.mul_pos ha.1.pos hb.1.pos) (pow_mul ha.2 hb.2)
theorem sn_half : Sn 2 Tn.half := ⟨Tn.half_can, by decide⟩
section
variable {P : Program} {w : World} {K : PySem.W.Frag} {mg : Str → Option Value} {base : Heap} {f : Addr} {fd : FuncData}
theorem ok_made (F : FnP K "_law_made_right" s_l_made_right f fd) (T : Txt K mg) (D_l_signed : L_signed P w K mg base) (D_l_is : L_is P w K mg base) (TC : Tc P w K mg base) : FnOk P w K mg base CX0 4 f fd ["_law_top", "_law_under"] sp_made := by
  obtain ⟨fdI, G_Turn_init, b_Turn_init, ⟨ds1, v_Turn_init1, b_Turn_init1⟩, its, kb_Turn_init⟩ := TC
  refine F.ok sc_l_made_right (fun vs H Q E h => ?_) (fun cdv A outer s H vs Q E hr h => ?_)
  · obtain ⟨t, u, rfl, _⟩ := h
    rfl
  · obtain ⟨t, u, rfl, hd, k⟩ := h
    have u0 : u ≠ 0 := hd.1
    have uz : u.natAbs < 2 ^ 4000 := pow_big hd.2 (by decide)
    refine ⟨_, PSs.nox (pss_cons (ps_set (i := 2) sc_l_made_right.nd rfl (Or.inl rfl) (pe_cd D_l_signed (hr.mono (by decide)) (by rfl) (pa_cons (pv 0) (pa_cons (pv 1) pa_nil))))
      (pss_cons (ps_if (PW.pt (pw_or (pt_not (pt_val (pe_cd D_l_is (hr.mono (by decide)) (by rfl) (pa_cons (pe_make T.mk_Turn G_Turn_init (hr.mono (by decide)) (by rfl) T.g_Turn b_Turn_init .nil pass0 (pa_cons (pv 0) (pa_cons (pv 1) pa_nil))) (pa_cons (pv 2) pa_nil))))) (pw_or1 (pt_not (pt_val (pe_cd D_l_is (hr.mono (by decide)) (by rfl) (pa_cons (pe_makeN T.mk_Turn G_Turn_init (hr.mono (by decide)) (by rfl) T.g_Turn kb_Turn_init pass0 (pa_cons (pv 0) pa_nil) (pk_cons (pv 1) pk_nil)) (pa_cons (pv 2) pa_nil)))))))) (pss_one (ps_ret pe_bl)) pss_nil)
      (pss_one (ps_ret (pe_cd D_l_is (hr.mono (by decide)) (by rfl) (pa_cons (pe_make T.mk_Turn G_Turn_init (hr.mono (by decide)) (by rfl) T.g_Turn b_Turn_init1 v_Turn_init1 pass0 (pa_cons (pv 0) pa_nil)) (pa_cons (pe_tup (pa_cons pe_int (pa_cons pe_int pa_nil))) pa_nil))))))), ?_⟩
    refine q_set (EvR.go (er_signed (ev_var rfl) (ev_var rfl) u0 uz) fun q H1 e1 hq => ?_)
    have kw : EvR (tMakeN (He.ga K "Turn") 1 1 (sp_init (He.ga K "Turn")) (fun vs zs => vs ++ zs) E0 (tCons (tVar 0) tNil) (tCons (tVar 1) tNil)) [some (.int t), some (.int u), some (.ref q)] H1 (PT (He.ga K "Turn") (Tn.sgn t u)) := fun H2 e2 Q' k' =>
      ⟨_, rfl, _, rfl, rfl, rfl, fun x dx hx hdx ne => make_turn u0 uz (fun p H3 _ e3 ht => k' p H3 e3 ht) x dx hx hdx ne⟩
    refine q_when (b := false) (et_or (et_is1 (er_tn (tn_make (ea_cons (ev_var rfl) (ea_cons (ev_var rfl) ea_nil)) u0 uz)) (er_pair rfl hq)) fun _ => et_is1 kw (er_pair rfl hq)) (fun hb => nomatch hb) fun _ H2 e2 => ?_
    exact s_ret (ev_is ((er_tn (tn_make (u := 1) (ea_cons (ev_var rfl) ea_nil) (by decide) (pow_big (n := 1) (by decide) (by decide)))).is (Tn.sgn_whole t)) er_tup2) fun H3 e3 => k H3 ((e1.trans e2).trans e3)
structure Ms (P : Program) (w : World) (K : PySem.W.Frag) (mg : Str → Option Value) (base : Heap) : Prop where
  plus : ∃ fd, FnOk P w K mg base CX0 4 (He.ma K (He.ga K "Turn") "plus") fd ["self", "other"] (sp_two (He.ga K "Turn") Tn.on) ∧ Binds K fd ["self", "other"] []
  minus : ∃ fd, FnOk P w K mg base CX0 4 (He.ma K (He.ga K "Turn") "minus") fd ["self", "other"] (sp_two (He.ga K "Turn") Tn.off) ∧ Binds K fd ["self", "other"] []
  times : ∃ fd, FnOk P w K mg base CX0 4 (He.ma K (He.ga K "Turn") "times") fd ["self", "many"] (sp_times (He.ga K "Turn")) ∧ Binds K fd ["self", "many"] []
  opposite : ∃ fd, FnOk P w K mg base CX0 4 (He.ma K (He.ga K "Turn") "opposite") fd ["self"] (sp_opposite (He.ga K "Turn")) ∧ Binds K fd ["self"] []
theorem ok_right (F : FnP K "_law_right" s_l_right f fd) (T : Txt K mg) (D_l_signed : L_signed P w K mg base) (D_l_is : L_is P w K mg base) (D_l_on : L_on P w K mg base) (D_l_off : L_off P w K mg base) (D_l_part : L_part P w K mg base) (TC : Tc P w K mg base) (MS : Ms P w K mg base) :
    FnOk P w K mg base CX0 5 f fd ["_law_one", "_law_other", "_law_many"] sp_right := by
  obtain ⟨fdI, G_Turn_init, b_Turn_init, _, _⟩ := TC
  obtain ⟨fd1, G_plus, b_plus⟩ := MS.plus
  obtain ⟨fd2, G_minus, b_minus⟩ := MS.minus
  obtain ⟨fd3, G_times, b_times⟩ := MS.times
  obtain ⟨fd4, G_opposite, b_opposite⟩ := MS.opposite
  refine F.ok sc_l_right (fun vs H Q E h => ?_) (fun cdv A outer s H vs Q E hr h => ?_)
  · obtain ⟨p, q, a, b, m, rfl, _⟩ := h
    rfl
  · obtain ⟨p, q, a, b, m, rfl, hp, hq, da, db, hm, k⟩ := h
    refine ⟨_, PSs.nox (pss_cons (ps_par (i := 3) (j := 4) (by rfl) sc_l_right.nd rfl rfl (by decide) rfl rfl (pa_cons (pe_cd D_l_signed (hr.mono (by decide)) (by rfl) (pa_cons (pe_ix ix_tup (pv 0) pe_int (fun _ _ => rfl)) (pa_cons (pe_ix ix_tup (pv 0) pe_int (fun _ _ => rfl)) pa_nil))) (pa_cons (pe_cd D_l_signed (hr.mono (by decide)) (by rfl) (pa_cons (pe_ix ix_tup (pv 1) pe_int (fun _ _ => rfl)) (pa_cons (pe_ix ix_tup (pv 1) pe_int (fun _ _ => rfl)) pa_nil))) pa_nil)) (by rfl))
      (pss_cons (ps_par (i := 5) (j := 6) (by rfl) sc_l_right.nd rfl rfl (by decide) rfl rfl (pa_cons (pe_make T.mk_Turn G_Turn_init (hr.mono (by decide)) (by rfl) T.g_Turn b_Turn_init .nil pass0 (pa_cons (pe_ix ix_tup (pv 0) pe_int (fun _ _ => rfl)) (pa_cons (pe_ix ix_tup (pv 0) pe_int (fun _ _ => rfl)) pa_nil))) (pa_cons (pe_make T.mk_Turn G_Turn_init (hr.mono (by decide)) (by rfl) T.g_Turn b_Turn_init .nil pass0 (pa_cons (pe_ix ix_tup (pv 1) pe_int (fun _ _ => rfl)) (pa_cons (pe_ix ix_tup (pv 1) pe_int (fun _ _ => rfl)) pa_nil))) pa_nil)) (by rfl))
      (pss_cons (ps_set (i := 7) sc_l_right.nd rfl (Or.inl rfl) (pe_meth (pv 5) T.cl_Turn T.m_plus G_plus (hr.mono (by decide)) b_plus .nil pass0 (pa_cons (pv 6) pa_nil)))
      (pss_cons (ps_if (PW.pt (pw_or (pt_not (pt_val (pe_cd D_l_is (hr.mono (by decide)) (by rfl) (pa_cons (pv 7) (pa_cons (pe_cd D_l_on (hr.mono (by decide)) (by rfl) (pa_cons (pv 3) (pa_cons (pv 4) pa_nil))) pa_nil))))) (pw_or (pt_not (pt_val (pe_cd D_l_is (hr.mono (by decide)) (by rfl) (pa_cons (pe_meth (pv 7) T.cl_Turn T.m_minus G_minus (hr.mono (by decide)) b_minus .nil pass0 (pa_cons (pv 6) pa_nil)) (pa_cons (pv 3) pa_nil))))) (pw_or1 (pt_not (pt_val (pe_cd D_l_is (hr.mono (by decide)) (by rfl) (pa_cons (pe_meth (pv 7) T.cl_Turn T.m_minus G_minus (hr.mono (by decide)) b_minus .nil pass0 (pa_cons (pv 5) pa_nil)) (pa_cons (pv 4) pa_nil))))))))) (pss_one (ps_ret pe_bl)) pss_nil)
      (pss_cons (ps_if (PW.pt (pw_or (pt_not (pt_val (pe_cd D_l_is (hr.mono (by decide)) (by rfl) (pa_cons (pe_meth (pv 5) T.cl_Turn T.m_minus G_minus (hr.mono (by decide)) b_minus .nil pass0 (pa_cons (pv 6) pa_nil)) (pa_cons (pe_cd D_l_off (hr.mono (by decide)) (by rfl) (pa_cons (pv 3) (pa_cons (pv 4) pa_nil))) pa_nil))))) (pw_or1 (pt_not (pt_val (pe_cd D_l_is (hr.mono (by decide)) (by rfl) (pa_cons (pe_meth (pv 5) T.cl_Turn T.m_minus G_minus (hr.mono (by decide)) b_minus .nil pass0 (pa_cons (pv 5) pa_nil)) (pa_cons (pe_tup (pa_cons pe_int (pa_cons pe_int pa_nil))) pa_nil)))))))) (pss_one (ps_ret pe_bl)) pss_nil)
      (pss_cons (ps_if (PW.pt (pw_or (pt_not (pt_val (pe_cd D_l_is (hr.mono (by decide)) (by rfl) (pa_cons (pe_meth (pv 5) T.cl_Turn T.m_times G_times (hr.mono (by decide)) b_times .nil pass0 (pa_cons (pv 2) pa_nil)) (pa_cons (pe_cd D_l_part (hr.mono (by decide)) (by rfl) (pa_cons (pe_op op_mulW (pe_ix ix_tup (pv 3) pe_int (fun _ _ => rfl)) (pv 2)) (pa_cons (pe_ix ix_tup (pv 3) pe_int (fun _ _ => rfl)) pa_nil))) pa_nil))))) (pw_or1 (pt_not (pt_val (pe_cd D_l_is (hr.mono (by decide)) (by rfl) (pa_cons (pe_meth (pv 5) T.cl_Turn T.m_times G_times (hr.mono (by decide)) b_times .nil pass0 (pa_cons pe_int pa_nil)) (pa_cons (pe_tup (pa_cons pe_int (pa_cons pe_int pa_nil))) pa_nil)))))))) (pss_one (ps_ret pe_bl)) pss_nil)
      (pss_cons (ps_if (PW.pt (pw_or (pt_not (pt_val (pe_cd D_l_is (hr.mono (by decide)) (by rfl) (pa_cons (pe_meth0 (pv 5) T.cl_Turn T.m_opposite G_opposite (hr.mono (by decide)) b_opposite .nil pass0) (pa_cons (pe_cd D_l_on (hr.mono (by decide)) (by rfl) (pa_cons (pv 3) (pa_cons (pe_tup (pa_cons pe_int (pa_cons pe_int pa_nil))) pa_nil))) pa_nil))))) (pw_or1 (pt_not (pt_val (pe_cd D_l_is (hr.mono (by decide)) (by rfl) (pa_cons (pe_meth0 (pe_meth0 (pv 5) T.cl_Turn T.m_opposite G_opposite (hr.mono (by decide)) b_opposite .nil pass0) T.cl_Turn T.m_opposite G_opposite (hr.mono (by decide)) b_opposite .nil pass0) (pa_cons (pv 3) pa_nil)))))))) (pss_one (ps_ret pe_bl)) pss_nil)
      (pss_cons (ps_if (PW.pt (pw_or (pt_not (pt_val (pe_cd D_l_is (hr.mono (by decide)) (by rfl) (pa_cons (pe_meth (pv 5) T.cl_Turn T.m_plus G_plus (hr.mono (by decide)) b_plus .nil pass0 (pa_cons (pv 5) pa_nil)) (pa_cons (pe_cd D_l_on (hr.mono (by decide)) (by rfl) (pa_cons (pv 3) (pa_cons (pv 3) pa_nil))) pa_nil))))) (pw_or1 (pt_not (pt_val (pe_cd D_l_is (hr.mono (by decide)) (by rfl) (pa_cons (pe_meth (pv 5) T.cl_Turn T.m_plus G_plus (hr.mono (by decide)) b_plus .nil pass0 (pa_cons (pv 6) pa_nil)) (pa_cons (pe_cd D_l_on (hr.mono (by decide)) (by rfl) (pa_cons (pv 3) (pa_cons (pv 4) pa_nil))) pa_nil)))))))) (pss_one (ps_ret pe_bl)) pss_nil)
      (pss_cons (ps_if (PW.pt (pw_or (pt_not (pt_val (pe_cd D_l_is (hr.mono (by decide)) (by rfl) (pa_cons (pe_meth (pv 5) T.cl_Turn T.m_plus G_plus (hr.mono (by decide)) b_plus .nil pass0 (pa_cons (pv 5) pa_nil)) (pa_cons (pe_cd D_l_on (hr.mono (by decide)) (by rfl) (pa_cons (pv 3) (pa_cons (pv 3) pa_nil))) pa_nil))))) (pw_or1 (pt_not (pt_val (pe_cd D_l_is (hr.mono (by decide)) (by rfl) (pa_cons (pe_meth (pv 5) T.cl_Turn T.m_plus G_plus (hr.mono (by decide)) b_plus .nil pass0 (pa_cons (pv 6) pa_nil)) (pa_cons (pe_cd D_l_on (hr.mono (by decide)) (by rfl) (pa_cons (pv 3) (pa_cons (pv 4) pa_nil))) pa_nil)))))))) (pss_one (ps_ret pe_bl)) pss_nil)
      (pss_cons (ps_if (PW.pt (pw_or (pt_not (pt_val (pe_cd D_l_is (hr.mono (by decide)) (by rfl) (pa_cons (pe_meth (pv 5) T.cl_Turn T.m_minus G_minus (hr.mono (by decide)) b_minus .nil pass0 (pa_cons (pv 6) pa_nil)) (pa_cons (pe_cd D_l_off (hr.mono (by decide)) (by rfl) (pa_cons (pv 3) (pa_cons (pv 4) pa_nil))) pa_nil))))) (pw_or1 (pt_not (pt_val (pe_cd D_l_is (hr.mono (by decide)) (by rfl) (pa_cons (pe_meth (pv 5) T.cl_Turn T.m_times G_times (hr.mono (by decide)) b_times .nil pass0 (pa_cons (pv 2) pa_nil)) (pa_cons (pe_cd D_l_part (hr.mono (by decide)) (by rfl) (pa_cons (pe_op op_mulW (pe_ix ix_tup (pv 3) pe_int (fun _ _ => rfl)) (pv 2)) (pa_cons (pe_ix ix_tup (pv 3) pe_int (fun _ _ => rfl)) pa_nil))) pa_nil)))))))) (pss_one (ps_ret pe_bl)) pss_nil)
      (pss_one (ps_ret (pe_and (pe_cd D_l_is (hr.mono (by decide)) (by rfl) (pa_cons (pv 5) (pa_cons (pv 3) pa_nil))) (pe_one (pe_cd D_l_is (hr.mono (by decide)) (by rfl) (pa_cons (pv 6) (pa_cons (pv 4) pa_nil))))))))))))))))), ?_⟩
    have az : a.2.natAbs < 2 ^ 4000 := pow_big da.2 (by decide)
    have bz : b.2.natAbs < 2 ^ 4000 := pow_big db.2 (by decide)
    have mz : m.natAbs < 2 ^ 400 := pow_big hm (by decide)
    have i0 : ∀ {i : Nat} {pr : Addr} {c : Int × Int} {σ0 : L2.St} {H0 : Hp}, σ0[i]? = some (some (.ref pr)) → H0 pr = some (.tup (tv c)) → Ev (tOp (rIxT K) (tVar i) (tC (.int 0))) σ0 H0 (.int c.1) := fun hσ hpr => ev_ixT (j := 0) (ev_var hσ) hpr rfl
    have i1 : ∀ {i : Nat} {pr : Addr} {c : Int × Int} {σ0 : L2.St} {H0 : Hp}, σ0[i]? = some (some (.ref pr)) → H0 pr = some (.tup (tv c)) → Ev (tOp (rIxT K) (tVar i) (tC (.int 1))) σ0 H0 (.int c.2) := fun hσ hpr => ev_ixT (j := 1) (ev_var hσ) hpr rfl
    have sg : ∀ {i : Nat} {pr : Addr} {c : Int × Int} {σ0 : L2.St} {H0 : Hp}, Dr c → σ0[i]? = some (some (.ref pr)) → H0 pr = some (.tup (tv c)) → EvR (tCall sp_signed [] E0 (tCons (tOp (rIxT K) (tVar i) (tC (.int 0))) (tCons (tOp (rIxT K) (tVar i) (tC (.int 1))) tNil))) σ0 H0 (PP (Tn.sgn c.1 c.2)) := fun dc hσ hpr => er_signed (i0 hσ hpr) (i1 hσ hpr) dc.1 (pow_big dc.2 (by decide))
    have mt : ∀ {i : Nat} {pr : Addr} {c : Int × Int} {σ0 : L2.St} {H0 : Hp}, Dr c → σ0[i]? = some (some (.ref pr)) → H0 pr = some (.tup (tv c)) → EvR (tMake (He.ga K "Turn") (sp_init (He.ga K "Turn")) [] E0 (tCons (tOp (rIxT K) (tVar i) (tC (.int 0))) (tCons (tOp (rIxT K) (tVar i) (tC (.int 1))) tNil))) σ0 H0 (PT (He.ga K "Turn") (Tn.sgn c.1 c.2)) := fun dc hσ hpr =>
      er_tn (tn_make (ea_cons (i0 hσ hpr) (ea_cons (i1 hσ hpr) ea_nil)) dc.1 (pow_big dc.2 (by decide)))
    refine q_par (x_cons (EvR.go (sg da rfl hp) fun ra H1 e1 hra => ?_))
    refine x_cons (EvR.go (sg db rfl (e1 _ _ hq)) fun rb H2 e2 hrb => x_nil ⟨_, _, rfl, ?_⟩)
    have hp2 := (e1.trans e2) _ _ hp
    have hq2 := (e1.trans e2) _ _ hq
    refine q_par (x_cons (EvR.go (mt da rfl hp2) fun rf H3 e3 hrf => ?_))
    refine x_cons (EvR.go (mt db rfl (e3 _ _ hq2)) fun rs H4 e4 hrs => x_nil ⟨_, _, rfl, ?_⟩)
    have hA := sn_sgn da
    have hB := sn_sgn db
    have hAB := sn_on hA hB
    have hAh := sn_on hA sn_half
    have ha4 : H4 ra = some (.tup (tv (Tn.sgn a.1 a.2))) := ((e2.trans e3).trans e4) _ _ hra
    have hb4 : H4 rb = some (.tup (tv (Tn.sgn b.1 b.2))) := (e3.trans e4) _ _ hrb
    have hf4 : TurnAt (He.ga K "Turn") H4 rf (Tn.sgn a.1 a.2) := TurnAt.ex hrf e4
    have hs4 : TurnAt (He.ga K "Turn") H4 rs (Tn.sgn b.1 b.2) := hrs
    have e04 : Ex H H4 := ((e1.trans e2).trans e3).trans e4
    generalize Tn.sgn a.1 a.2 = X at *
    generalize Tn.sgn b.1 b.2 = Y at *
    refine q_set (EvR.go (er_m2 (g := Tn.on) (er_turn rfl hf4) (er_turn rfl hs4) hA.sm hB.sm) fun rc H5 e5 hrc => ?_)
    have ha5 := e5 _ _ ha4
    have hb5 := e5 _ _ hb4
    have hf5 : TurnAt (He.ga K "Turn") H5 rf X := TurnAt.ex hf4 e5
    have hs5 : TurnAt (He.ga K "Turn") H5 rs Y := TurnAt.ex hs4 e5
    have hc5 : TurnAt (He.ga K "Turn") H5 rc (Tn.on X Y) := hrc
    have e05 := e04.trans e5
    let σ1 : L2.St := [some (.ref p), some (.ref q), some (.int m), some (.ref ra), some (.ref rb), some (.ref rf), some (.ref rs), some (.ref rc)]
    have vA : EvR (tVar 3) σ1 H5 (PP X) := er_pair rfl ha5
    have vB : EvR (tVar 4) σ1 H5 (PP Y) := er_pair rfl hb5
    have vF : EvR (tVar 5) σ1 H5 (PT (He.ga K "Turn") X) := er_turn rfl hf5
    have vS : EvR (tVar 6) σ1 H5 (PT (He.ga K "Turn") Y) := er_turn rfl hs5
    have vC : EvR (tVar 7) σ1 H5 (PT (He.ga K "Turn") (Tn.on X Y)) := er_turn rfl hc5
    have pAB : EvR (tCall (sp_pair Tn.on) [] E0 (tCons (tVar 3) (tCons (tVar 4) tNil))) σ1 H5 (PP (Tn.on X Y)) := er_pairs vA vB hA.sm hB.sm
    have dAB : EvR (tCall (sp_pair Tn.off) [] E0 (tCons (tVar 3) (tCons (tVar 4) tNil))) σ1 H5 (PP (Tn.off X Y)) := er_pairs vA vB hA.sm hB.sm
    have pAA : EvR (tCall (sp_pair Tn.on) [] E0 (tCons (tVar 3) (tCons (tVar 3) tNil))) σ1 H5 (PP (Tn.on X X)) := er_pairs vA vA hA.sm hA.sm
    have pAh : EvR (tCall (sp_pair Tn.on) [] E0 (tCons (tVar 3) (tCons (tTup (tCons (tC (.int 1)) (tCons (tC (.int 2)) tNil))) tNil))) σ1 H5 (PP (Tn.on X Tn.half)) := er_pairs vA er_tup2 hA.sm sn_half.sm
    have a1 : Ev (tOp (rIxT K) (tVar 3) (tC (.int 0))) σ1 H5 (.int X.1) := ev_ixT (j := 0) (ev_var rfl) ha5 rfl
    have a2 : Ev (tOp (rIxT K) (tVar 3) (tC (.int 1))) σ1 H5 (.int X.2) := ev_ixT (j := 1) (ev_var rfl) ha5 rfl
    have tA : EvR (tCall sp_part [] E0 (tCons (tOp (rI CMulW fun i j => .int (i * j)) (tOp (rIxT K) (tVar 3) (tC (.int 0))) (tVar 2)) (tCons (tOp (rIxT K) (tVar 3) (tC (.int 1))) tNil))) σ1 H5 (PP (Tn.part (X.1 * m) X.2)) :=
      er_part (ev_mulW a1 (ev_var rfl) hA.sm.b1 mz) a2 hA.1.pos (pow_big hA.2 (by decide))
    have sA := hA.sm
    have sB := hB.sm
    have sAB := hAB.sm
    have sAh := hAh.sm
    -- 1
    refine q_when (b := false) (et_or (et_is1 vC pAB) fun _ => et_or (et_is1 ((er_m2 (g := Tn.off) vC vS sAB sB).is (Tn.on_off hA.1 hB.1)) vA) fun _ => et_is1 ((er_m2 (g := Tn.off) vC vF sAB sA).is (Tn.on_off' hA.1 hB.1)) vB) (fun hb => nomatch hb) fun _ H6 e6 => ?_
    -- 2
    refine q_when (b := false) (EvT.mono e6 (et_or (et_is1 (er_m2 (g := Tn.off) vF vS sA sB) dAB) fun _ => et_is1 ((er_m2 (g := Tn.off) vF vF sA sA).is (Tn.off_self hA.1)) er_tup2)) (fun hb => nomatch hb) fun _ H7 e7 => ?_
    -- 3
    have z0 : Tn.part (X.1 * 0) X.2 = (0, 1) := by
      rw [Int.mul_zero]
      exact Tn.part_zero hA.1.pos
    refine q_when (b := false) (EvT.mono (e6.trans e7) (et_or (et_is1 (er_times vF (ev_var rfl) sA mz) tA) fun _ => et_is1 ((er_times (m := 0) vF ev_c sA (pow_big (n := 1) (by decide) (by decide))).is z0) er_tup2)) (fun hb => nomatch hb) fun _ H8 e8 => ?_
    -- 4
    refine q_when (b := false) (EvT.mono ((e6.trans e7).trans e8) (et_or (et_is1 (er_opp vF sA) pAh) fun _ => et_is1 ((er_opp (er_opp vF sA) sAh).is (Tn.on_half2 hA.1)) vA)) (fun hb => nomatch hb) fun _ H9 e9 => ?_
    -- 5, 6
    refine q_when (b := false) (EvT.mono (((e6.trans e7).trans e8).trans e9) (et_or (et_is1 (er_m2 (g := Tn.on) vF vF sA sA) pAA) fun _ => et_is1 (er_m2 (g := Tn.on) vF vS sA sB) pAB)) (fun hb => nomatch hb) fun _ H10 e10 => ?_
    refine q_when (b := false) (EvT.mono ((((e6.trans e7).trans e8).trans e9).trans e10) (et_or (et_is1 (er_m2 (g := Tn.on) vF vF sA sA) pAA) fun _ => et_is1 (er_m2 (g := Tn.on) vF vS sA sB) pAB)) (fun hb => nomatch hb) fun _ H11 e11 => ?_
    -- 7
    refine q_when (b := false) (EvT.mono (((((e6.trans e7).trans e8).trans e9).trans e10).trans e11) (et_or (et_is1 (er_m2 (g := Tn.off) vF vS sA sB) dAB) fun _ => et_is1 (er_times vF (ev_var rfl) sA mz) tA)) (fun hb => nomatch hb) fun _ H12 e12 => ?_
    have e512 := (((((e6.trans e7).trans e8).trans e9).trans e10).trans e11).trans e12
    exact s_ret (v := .bl true) (Ev.mono e512 (ev_andV (ev_is vF vA) fun _ => ev_is vS vB)) fun H13 e13 => k H13 ((e05.trans e512).trans e13)
theorem ok_law (F : FnP K "law" s_law f fd) (T : Txt K mg) (D_l_cell : Dn P w K mg base 1 "_law_cell" ["_law_script", "_law_k"] (sp_cell K)) (D_l_pool : Dn P w K mg base 1 "_law_pool" ["_law_cell_here"] sp_pool) (D_l_two : Dn P w K mg base 3 "_law_two" ["_law_pool_here"] sp_draw)
    (D_l_number : L_number P w K mg base) (D_l_made_right : Dn P w K mg base 4 "_law_made_right" ["_law_top", "_law_under"] sp_made) (D_l_right : Dn P w K mg base 5 "_law_right" ["_law_one", "_law_other", "_law_many"] sp_right) :
    FnOk P w K mg base CX0 6 f fd ["_law_script"] (sp_law K) := by
  refine F.ok sc_law (fun vs H Q E h => ?_) (fun cdv A outer s H vs Q E hr h => ?_)
  · obtain ⟨a, ns, rfl, _⟩ := h
    rfl
  · obtain ⟨l, ns, rfl, hs, hlen, k⟩ := h
    refine ⟨_, PSs.nox (pss_cons (ps_for PassesOwn.never rfl (pi_range1 (by rfl) T.b_range (pa_cons (pe_callB (call_max2 rfl) (by rfl) T.b_max (by decide +kernel) (pa_cons pe_int (pa_cons (pe_callB (call_min2 rfl) (by rfl) T.b_min (by decide +kernel) (pa_cons (pe_callB call_len_seq (by rfl) T.b_len (by decide +kernel) (pa_cons (pv 0) pa_nil)) (pa_cons pe_int pa_nil))) pa_nil))) pa_nil)) (pg_name (i := 1) sc_law.nd rfl (Or.inl rfl)) (pss_cons (ps_set (i := 2) sc_law.nd rfl (Or.inl rfl) (pe_cd D_l_pool (hr.mono (by decide)) (by rfl) (pa_cons (pe_cd D_l_cell (hr.mono (by decide)) (by rfl) (pa_cons (pv 0) (pa_cons (pv 1) pa_nil))) pa_nil)))
        (pss_cons (ps_par (i := 3) (j := 4) (by rfl) sc_law.nd rfl rfl (by decide) rfl rfl (pa_cons (pe_cd D_l_two (hr.mono (by decide)) (by rfl) (pa_cons (pv 2) pa_nil)) (pa_cons (pe_cd D_l_two (hr.mono (by decide)) (by rfl) (pa_cons (pv 2) pa_nil)) pa_nil)) (by rfl))
        (pss_cons (ps_if (PW.pt (pw_or (pt_not (pt_val (pe_cd D_l_made_right (hr.mono (by decide)) (by rfl) (pa_cons (pe_ix ix_tup (pv 3) pe_int (fun _ _ => rfl)) (pa_cons (pe_ix ix_tup (pv 3) pe_int (fun _ _ => rfl)) pa_nil))))) (pw_or1 (pt_not (pt_val (pe_cd D_l_made_right (hr.mono (by decide)) (by rfl) (pa_cons (pe_ix ix_tup (pv 4) pe_int (fun _ _ => rfl)) (pa_cons (pe_ix ix_tup (pv 4) pe_int (fun _ _ => rfl)) pa_nil)))))))) (pss_one (ps_ret pe_bl)) pss_nil)
        (pss_one (ps_if (PW.pt (pw_or (pt_not (pt_val (pe_cd D_l_right (hr.mono (by decide)) (by rfl) (pa_cons (pv 3) (pa_cons (pv 4) (pa_cons (pe_cd D_l_number (hr.mono (by decide)) (by rfl) (pa_cons (pv 2) pa_nil)) pa_nil)))))) (pw_or1 (pt_not (pt_val (pe_cd D_l_right (hr.mono (by decide)) (by rfl) (pa_cons (pv 3) (pa_cons (pv 3) (pa_cons (pe_un un_neg pe_int) pa_nil))))))))) (pss_one (ps_ret pe_bl)) pss_nil))))))
      (pss_one (ps_ret pe_bl))), ?_⟩
    have ln : ∀ {r : List V → Hp → VK → Prop}, (∀ H1 Q', (∃ p ys, [V.ref l] = [.ref p] ∧ (SqL K H1 p ys ∨ SqT K H1 p ys) ∧ Q' (.int (ys.length : Nat)) H1) → r [V.ref l] H1 Q') → RC r [.ref l] H (.int ((ns.map V.int).length : Nat)) := fun hr H1 e Q' q => hr _ _ ⟨l, _, rfl, .inl (ex_l e hs), q H1 (Ex.refl _)⟩
    have nlen : ((ns.map V.int).length : Int) ≤ 63 := by
      rw [List.length_map]
      omega
    obtain ⟨turns, tn, tb⟩ : ∃ turns : Int, Ev (tCB (fun xs H Q => ∃ i j, xs = [.int i, .int j] ∧ Q (.int (if j > i then j else i)) H) (tCons (tC (.int 1)) (tCons (tCB (fun xs H Q => ∃ i j, xs = [.int i, .int j] ∧ Q (.int (if j < i then j else i)) H) (tCons (tCB (fun xs H Q => ∃ p ys, xs = [.ref p] ∧ (SqL K H p ys ∨ SqT K H p ys) ∧ Q (.int (ys.length : Nat)) H) (tCons (tVar 0) tNil)) (tCons (tC (.int 20)) tNil))) tNil))) [some (.ref l), none, none, none, none] H (.int turns) ∧ 0 ≤ turns ∧ turns ≤ 20 := by
      refine ⟨_, ev_cb (ea_cons ev_c (ea_cons (ev_cb (ea_cons (ev_cb (ea_cons (ev_var rfl) ea_nil) (ln fun _ _ z => z)) (ea_cons ev_c ea_nil)) fun H1 _ Q' q => ⟨_, _, rfl, q H1 (Ex.refl _)⟩) ea_nil)) fun H1 _ Q' q => ⟨_, _, rfl, q H1 (Ex.refl _)⟩, ?_⟩
      generalize ((ns.map V.int).length : Int) = n at nlen
      split <;> split <;> omega
    refine q_forR1 (n := turns) (ea_cons tn ea_nil) ⟨tb.1, by omega⟩ (fun i σ' H' => Ex H H' ∧ ∃ v1 v2 v3 v4, σ' = [some (.ref l), v1, v2, v3, v4]) (fun H1 e1 => ⟨e1, _, _, _, _, rfl⟩) ?_ ?_
    · rintro i σ' H' hi ⟨e, v1, v2, v3, v4, rfl⟩
      refine q_set (x_call (x_cons (x_call (x_cons (x_var rfl (x_cons (x_var rfl (x_nil ⟨l, ns, i, rfl, ex_l e hs, by omega, fun c H1 e1 => ?_⟩))))))))
      refine x_nil ⟨c, rfl, fun p H2 hp2 e2 pp => ?_⟩
      have f2 : Ex H H2 := (e.trans e1).trans e2
      have np : H p = none := fresh_back (e.trans e1) hp2
      refine q_par (x_cons (draw_go rfl pp fun r a H3 hr3 da b3 p3 h3 => x_cons (draw_go rfl p3 fun q b H4 hq4 db b4 p4 h4 => x_nil ⟨_, _, rfl, ?_⟩)))
      have e24 : Ex H H4 := (((But.ex f2).trans b3).trans b4).new np
      have nrp : r ≠ p := pool_ne pp hr3
      have h34 : H4 r = some (.tup (tv a)) := b4 _ _ nrp h3
      have mk : ∀ {i : Nat} {pr : Addr} {c : Int × Int} {σ0 : L2.St} {H0 : Hp}, σ0[i]? = some (some (.ref pr)) → H0 pr = some (.tup (tv c)) → Dr c → Ev (tCall sp_made [] E0 (tCons (tOp (rIxT K) (tVar i) (tC (.int 0))) (tCons (tOp (rIxT K) (tVar i) (tC (.int 1))) tNil))) σ0 H0 (.bl true) := fun hσ hpr dc =>
        ev_call (ea_cons (ev_ixT (j := 0) (ev_var hσ) hpr rfl) (ea_cons (ev_ixT (j := 1) (ev_var hσ) hpr rfl) ea_nil)) fun H5 e5 Q' q' E' => ⟨_, _, rfl, dc, q'⟩
      refine q_when (b := false) (et_or (et_not (et_B (mk rfl h34 da))) fun _ => et_not (et_B (mk rfl h4 db))) (fun hb => nomatch hb) fun _ H5 e5 => ?_
      refine x_if (x_or (x_not (x_B (x_call (x_cons (x_var rfl (x_cons (x_var rfl (x_cons (number_go rfl (pool_ex p4 e5) fun m H6 hm b6 p6 => x_nil ?_))))))))))
      have nqp : q ≠ p := pool_ne p3 hq4
      have hr6 : H6 r = some (.tup (tv a)) := b6 _ _ nrp (e5 _ _ h34)
      have hq6 : H6 q = some (.tup (tv b)) := b6 _ _ nqp (e5 _ _ h4)
      have e26 : Ex H H6 := (((But.ex e24).trans (But.ex e5)).trans b6).new np
      refine ⟨r, q, a, b, m, rfl, hr6, hq6, da, db, hm, fun H7 e7 => ⟨true, rfl, ?_⟩⟩
      refine iteF ?_
      refine x_not (x_B (x_call (x_cons (x_var rfl (x_cons (x_var rfl (x_cons (Evl.Ev.go (ev_neg ev_c) fun H8 e8 => x_nil ?_))))))))
      refine ⟨r, r, a, a, -1, rfl, e8 _ _ (e7 _ _ hr6), e8 _ _ (e7 _ _ hr6), da, da, (pow_big (n := 2) (by decide) (by decide)), fun H9 e9 => ⟨true, rfl, ?_⟩⟩
      exact iteF ⟨((e26.trans e7).trans e8).trans e9, _, _, _, _, rfl⟩
    · rintro σ' H' ⟨e, v1, v2, v3, v4, rfl⟩
      exact s_ret ev_c fun H1 e1 => k H1
end
end K01

namespace K01
open PySem PySem.Spec PyProof.Rows L2 Evl
theorem facts {P : Program} {w : World} {K : PySem.W.Frag} {h : Heap} {mg : Str → Option Value} {f : Addr} (X : K.In h) (G : h.Ns mainGlobals mg) (hfa : mg ("law" : Str) = some (.ref f)) (c : He.SaysD fa fn K) (cx : ex K = true) :
    ∃ fd : FuncData, (∀ (s : Shared) (v : Value), BindsTo s fd ⟨[v], []⟩ [("_law_script", v)]) ∧ ∀ base : Heap, K.In base → base.Ns mainGlobals mg → FnOk P w K mg base CX0 6 f fd ["_law_script"] (sp_law K) := by
  have T : Txt K mg := { g_Turn := He.glo_ok X G (c.fact 27 (f := .glo "Turn") rfl), cl_Turn := He.cls_ok (c.fact 28 (f := .cls "Turn") rfl), mk_Turn := He.mkr_ok (c.fact 29 (f := .mkr "Turn") rfl), no_top := He.noat_ok (c.fact 30 (f := .noat "Turn" "top") rfl), no_bottom := He.noat_ok (c.fact 31 (f := .noat "Turn" "bottom") rfl), is_Turn := tyB_ok cx, m_plus := He.meth_ok (c.fact 32 (f := .meth "Turn" "plus") rfl), m_minus := He.meth_ok (c.fact 33 (f := .meth "Turn" "minus") rfl), m_times := He.meth_ok (c.fact 34 (f := .meth "Turn" "times") rfl), m_opposite := He.meth_ok (c.fact 35 (f := .meth "Turn" "opposite") rfl), b_isinstance := He.free_ok X G (c.fact 18 (f := .free "isinstance") rfl), b_int := He.free_ok X G (c.fact 19 (f := .free "int") rfl), b_bool := He.free_ok X G (c.fact 20 (f := .free "bool") rfl), b_abs := He.free_ok X G (c.fact 21 (f := .free "abs") rfl), b_len := He.free_ok X G (c.fact 22 (f := .free "len") rfl), b_divmod := He.free_ok X G (c.fact 23 (f := .free "divmod") rfl), b_range := He.free_ok X G (c.fact 24 (f := .free "range") rfl), b_max := He.free_ok X G (c.fact 25 (f := .free "max") rfl), b_min := He.free_ok X G (c.fact 26 (f := .free "min") rfl) }
  obtain ⟨fd_is_whole, F0_is_whole⟩ := c.def_ 0 (d := d_is_whole) rfl
  have F_is_whole : FnP K "is_whole" s_is_whole (He.ga K "is_whole") fd_is_whole := F0_is_whole
  have g_is_whole := He.glo_ok X G (c.fact 0 (f := .glo "is_whole") rfl)
  have b_is_whole : Binds K fd_is_whole ["thing"] [] := F_is_whole.bindsN fun _ _ _ _ _ _ us hl => match us, hl with | [_], _ => rfl
  obtain ⟨fd_common, F0_common⟩ := c.def_ 1 (d := d_common) rfl
  have F_common : FnP K "common" s_common (He.ga K "common") fd_common := F0_common
  have g_common := He.glo_ok X G (c.fact 1 (f := .glo "common") rfl)
  have b_common : Binds K fd_common ["one", "other"] [] := F_common.bindsN fun _ _ _ _ _ _ us hl => match us, hl with | [_, _], _ => rfl
  obtain ⟨fd_must_be_turn, F0_must_be_turn⟩ := c.def_ 2 (d := d_must_be_turn) rfl
  have F_must_be_turn : FnP K "must_be_turn" s_must_be_turn (He.ga K "must_be_turn") fd_must_be_turn := F0_must_be_turn
  have g_must_be_turn := He.glo_ok X G (c.fact 2 (f := .glo "must_be_turn") rfl)
  have b_must_be_turn : Binds K fd_must_be_turn ["thing"] [] := F_must_be_turn.bindsN fun _ _ _ _ _ _ us hl => match us, hl with | [_], _ => rfl
  obtain ⟨fd_Turn_init, F0_Turn_init⟩ := c.def_ 3 (d := d_Turn_init) rfl
  have F_Turn_init : FunD K "__init__" "Turn.__init__" (defArgs s_Turn_init) (defBody s_Turn_init) (defScope s_Turn_init) [.int 1] [] (He.ma K (He.ga K "Turn") "__init__") fd_Turn_init := F0_Turn_init
  obtain ⟨fd_Turn_plus, F0_Turn_plus⟩ := c.def_ 4 (d := d_Turn_plus) rfl
  have F_Turn_plus : FnM K "plus" "Turn.plus" s_Turn_plus (He.ma K (He.ga K "Turn") "plus") fd_Turn_plus := F0_Turn_plus
  have b_Turn_plus : Binds K fd_Turn_plus ["self", "other"] [] := F_Turn_plus.bindsN fun _ _ _ _ _ _ us hl => match us, hl with | [_, _], _ => rfl
  obtain ⟨fd_Turn_minus, F0_Turn_minus⟩ := c.def_ 5 (d := d_Turn_minus) rfl
  have F_Turn_minus : FnM K "minus" "Turn.minus" s_Turn_minus (He.ma K (He.ga K "Turn") "minus") fd_Turn_minus := F0_Turn_minus
  have b_Turn_minus : Binds K fd_Turn_minus ["self", "other"] [] := F_Turn_minus.bindsN fun _ _ _ _ _ _ us hl => match us, hl with | [_, _], _ => rfl
  obtain ⟨fd_Turn_times, F0_Turn_times⟩ := c.def_ 6 (d := d_Turn_times) rfl
  have F_Turn_times : FnM K "times" "Turn.times" s_Turn_times (He.ma K (He.ga K "Turn") "times") fd_Turn_times := F0_Turn_times
  have b_Turn_times : Binds K fd_Turn_times ["self", "many"] [] := F_Turn_times.bindsN fun _ _ _ _ _ _ us hl => match us, hl with | [_, _], _ => rfl
  obtain ⟨fd_Turn_opposite, F0_Turn_opposite⟩ := c.def_ 7 (d := d_Turn_opposite) rfl
  have F_Turn_opposite : FnM K "opposite" "Turn.opposite" s_Turn_opposite (He.ma K (He.ga K "Turn") "opposite") fd_Turn_opposite := F0_Turn_opposite
  have b_Turn_opposite : Binds K fd_Turn_opposite ["self"] [] := F_Turn_opposite.bindsN fun _ _ _ _ _ _ us hl => match us, hl with | [_], _ => rfl
  obtain ⟨fd_l_cell, F0_l_cell⟩ := c.def_ 8 (d := d_l_cell) rfl
  have F_l_cell : FnP K "_law_cell" s_l_cell (He.ga K "_law_cell") fd_l_cell := F0_l_cell
  have g_l_cell := He.glo_ok X G (c.fact 3 (f := .glo "_law_cell") rfl)
  have b_l_cell : Binds K fd_l_cell ["_law_script", "_law_k"] [] := F_l_cell.bindsN fun _ _ _ _ _ _ us hl => match us, hl with | [_, _], _ => rfl
  obtain ⟨fd_l_pool, F0_l_pool⟩ := c.def_ 9 (d := d_l_pool) rfl
  have F_l_pool : FnP K "_law_pool" s_l_pool (He.ga K "_law_pool") fd_l_pool := F0_l_pool
  have g_l_pool := He.glo_ok X G (c.fact 4 (f := .glo "_law_pool") rfl)
  have b_l_pool : Binds K fd_l_pool ["_law_cell_here"] [] := F_l_pool.bindsN fun _ _ _ _ _ _ us hl => match us, hl with | [_], _ => rfl
  obtain ⟨fd_l_take, F0_l_take⟩ := c.def_ 10 (d := d_l_take) rfl
  have F_l_take : FnP K "_law_take" s_l_take (He.ga K "_law_take") fd_l_take := F0_l_take
  have g_l_take := He.glo_ok X G (c.fact 5 (f := .glo "_law_take") rfl)
  have b_l_take : Binds K fd_l_take ["_law_pool_here", "_law_many"] [] := F_l_take.bindsN fun _ _ _ _ _ _ us hl => match us, hl with | [_, _], _ => rfl
  obtain ⟨fd_l_low, F0_l_low⟩ := c.def_ 11 (d := d_l_low) rfl
  have F_l_low : FnP K "_law_low" s_l_low (He.ga K "_law_low") fd_l_low := F0_l_low
  have g_l_low := He.glo_ok X G (c.fact 6 (f := .glo "_law_low") rfl)
  have b_l_low : Binds K fd_l_low ["_law_top", "_law_under"] [] := F_l_low.bindsN fun _ _ _ _ _ _ us hl => match us, hl with | [_, _], _ => rfl
  obtain ⟨fd_l_part, F0_l_part⟩ := c.def_ 12 (d := d_l_part) rfl
  have F_l_part : FnP K "_law_part" s_l_part (He.ga K "_law_part") fd_l_part := F0_l_part
  have g_l_part := He.glo_ok X G (c.fact 7 (f := .glo "_law_part") rfl)
  have b_l_part : Binds K fd_l_part ["_law_top", "_law_under"] [] := F_l_part.bindsN fun _ _ _ _ _ _ us hl => match us, hl with | [_, _], _ => rfl
  obtain ⟨fd_l_on, F0_l_on⟩ := c.def_ 13 (d := d_l_on) rfl
  have F_l_on : FnP K "_law_on" s_l_on (He.ga K "_law_on") fd_l_on := F0_l_on
  have g_l_on := He.glo_ok X G (c.fact 8 (f := .glo "_law_on") rfl)
  have b_l_on : Binds K fd_l_on ["_law_one", "_law_other"] [] := F_l_on.bindsN fun _ _ _ _ _ _ us hl => match us, hl with | [_, _], _ => rfl
  obtain ⟨fd_l_off, F0_l_off⟩ := c.def_ 14 (d := d_l_off) rfl
  have F_l_off : FnP K "_law_off" s_l_off (He.ga K "_law_off") fd_l_off := F0_l_off
  have g_l_off := He.glo_ok X G (c.fact 9 (f := .glo "_law_off") rfl)
  have b_l_off : Binds K fd_l_off ["_law_one", "_law_other"] [] := F_l_off.bindsN fun _ _ _ _ _ _ us hl => match us, hl with | [_, _], _ => rfl
  obtain ⟨fd_l_number, F0_l_number⟩ := c.def_ 15 (d := d_l_number) rfl
  have F_l_number : FnP K "_law_number" s_l_number (He.ga K "_law_number") fd_l_number := F0_l_number
  have g_l_number := He.glo_ok X G (c.fact 10 (f := .glo "_law_number") rfl)
  have b_l_number : Binds K fd_l_number ["_law_pool_here"] [] := F_l_number.bindsN fun _ _ _ _ _ _ us hl => match us, hl with | [_], _ => rfl
  obtain ⟨fd_l_whole, F0_l_whole⟩ := c.def_ 16 (d := d_l_whole) rfl
  have F_l_whole : FnP K "_law_whole" s_l_whole (He.ga K "_law_whole") fd_l_whole := F0_l_whole
  have g_l_whole := He.glo_ok X G (c.fact 11 (f := .glo "_law_whole") rfl)
  have b_l_whole : Binds K fd_l_whole ["_law_thing"] [] := F_l_whole.bindsN fun _ _ _ _ _ _ us hl => match us, hl with | [_], _ => rfl
  obtain ⟨fd_l_is, F0_l_is⟩ := c.def_ 17 (d := d_l_is) rfl
  have F_l_is : FnP K "_law_is" s_l_is (He.ga K "_law_is") fd_l_is := F0_l_is
  have g_l_is := He.glo_ok X G (c.fact 12 (f := .glo "_law_is") rfl)
  have b_l_is : Binds K fd_l_is ["_law_found", "_law_due"] [] := F_l_is.bindsN fun _ _ _ _ _ _ us hl => match us, hl with | [_, _], _ => rfl
  obtain ⟨fd_l_signed, F0_l_signed⟩ := c.def_ 18 (d := d_l_signed) rfl
  have F_l_signed : FnP K "_law_signed" s_l_signed (He.ga K "_law_signed") fd_l_signed := F0_l_signed
  have g_l_signed := He.glo_ok X G (c.fact 13 (f := .glo "_law_signed") rfl)
  have b_l_signed : Binds K fd_l_signed ["_law_top", "_law_under"] [] := F_l_signed.bindsN fun _ _ _ _ _ _ us hl => match us, hl with | [_, _], _ => rfl
  obtain ⟨fd_l_two, F0_l_two⟩ := c.def_ 19 (d := d_l_two) rfl
  have F_l_two : FnP K "_law_two" s_l_two (He.ga K "_law_two") fd_l_two := F0_l_two
  have g_l_two := He.glo_ok X G (c.fact 14 (f := .glo "_law_two") rfl)
  have b_l_two : Binds K fd_l_two ["_law_pool_here"] [] := F_l_two.bindsN fun _ _ _ _ _ _ us hl => match us, hl with | [_], _ => rfl
  obtain ⟨fd_l_made_right, F0_l_made_right⟩ := c.def_ 20 (d := d_l_made_right) rfl
  have F_l_made_right : FnP K "_law_made_right" s_l_made_right (He.ga K "_law_made_right") fd_l_made_right := F0_l_made_right
  have g_l_made_right := He.glo_ok X G (c.fact 15 (f := .glo "_law_made_right") rfl)
  have b_l_made_right : Binds K fd_l_made_right ["_law_top", "_law_under"] [] := F_l_made_right.bindsN fun _ _ _ _ _ _ us hl => match us, hl with | [_, _], _ => rfl
  obtain ⟨fd_l_right, F0_l_right⟩ := c.def_ 21 (d := d_l_right) rfl
  have F_l_right : FnP K "_law_right" s_l_right (He.ga K "_law_right") fd_l_right := F0_l_right
  have g_l_right := He.glo_ok X G (c.fact 16 (f := .glo "_law_right") rfl)
  have b_l_right : Binds K fd_l_right ["_law_one", "_law_other", "_law_many"] [] := F_l_right.bindsN fun _ _ _ _ _ _ us hl => match us, hl with | [_, _, _], _ => rfl
  obtain ⟨fd_law, F0_law⟩ := c.def_ 22 (d := d_law) rfl
  have F_law : FnP K "law" s_law (He.ga K "law") fd_law := F0_law
  have g_law := He.glo_ok X G (c.fact 17 (f := .glo "law") rfl)
  have e := hfa.symm.trans g_law
  cases e
  have bl := FunD.bindsA (ps := ["_law_script"]) F_law fun _ _ _ _ _ _ us hl => match us, hl with | [_], _ => rfl
  refine ⟨fd_law, fun s v => bl s [v] rfl, fun base _ _ => ?_⟩
  obtain ⟨d3, v3, b3⟩ := F_Turn_init.binds1 (ps := ["self", "top", "bottom"]) 3 1 (by simp) rfl fun T kV doc pm an cdv ct us its h1 h2 => match us, its, h1, h2 with | [_, _, _], [_], _, _ => ⟨_, rfl, rfl⟩
  obtain ⟨d2, v2, b2⟩ := F_Turn_init.binds1 (ps := ["self", "top", "bottom"]) 2 0 (by simp) rfl fun T kV doc pm an cdv ct us its h1 h2 => match us, its, h1, h2 with | [_, _], [_], _, _ => ⟨_, rfl, rfl⟩
  obtain ⟨its, kb⟩ := F_Turn_init.kbindsD (ps := ["self", "top", "bottom"]) 2 ["bottom"] (fun us _ ws => us ++ ws) (by simp) (fun a _ b => a.append b) fun T kV doc pm an cdv ct us its ws h1 h2 h3 => match us, its, ws, h1, h2, h3 with | [_, _], [_], [_], _, _, _ => ⟨_, rfl, rfl⟩
  have e3 : d3 = [] := by
    cases v3
    rfl
  subst e3
  have D1 : Cn P w K mg base := ⟨_, _, ok_is_whole F_is_whole T, g_is_whole, F_is_whole.kp, b_is_whole⟩
  have D2 : Cc P w K mg base := ⟨_, _, ok_common F_common T, g_common, F_common.kp, b_common⟩
  have D3 : Cm P w K mg base := ⟨_, _, ok_must F_must_be_turn T, g_must_be_turn, F_must_be_turn.kp, b_must_be_turn⟩
  have TC : Tc P w K mg base := ⟨_, ok_init F_Turn_init T D1 D2, b3, ⟨d2, v2, b2⟩, its, kb⟩
  have MS : Ms P w K mg base := ⟨⟨_, ok_plus F_Turn_plus T D3 TC, b_Turn_plus⟩, ⟨_, ok_minus F_Turn_minus T D3 TC, b_Turn_minus⟩, ⟨_, ok_times F_Turn_times T D1 TC, b_Turn_times⟩, ⟨_, ok_opposite F_Turn_opposite T TC, b_Turn_opposite⟩⟩
  have Dw : L_whole P w K mg base := ⟨_, _, ok_whole F_l_whole T, g_l_whole, F_l_whole.kp, b_l_whole⟩
  have Dc : Dn P w K mg base 1 "_law_cell" ["_law_script", "_law_k"] (sp_cell K) := ⟨_, _, ok_cell F_l_cell T, g_l_cell, F_l_cell.kp, b_l_cell⟩
  have Dp : Dn P w K mg base 1 "_law_pool" ["_law_cell_here"] sp_pool := ⟨_, _, ok_pool F_l_pool T, g_l_pool, F_l_pool.kp, b_l_pool⟩
  have Dt : L_take P w K mg base := ⟨_, _, ok_take F_l_take T, g_l_take, F_l_take.kp, b_l_take⟩
  have Dl : L_low P w K mg base := ⟨_, _, ok_low F_l_low T, g_l_low, F_l_low.kp, b_l_low⟩
  have Dq : L_part P w K mg base := ⟨_, _, ok_part F_l_part T Dl, g_l_part, F_l_part.kp, b_l_part⟩
  have Do : L_on P w K mg base := ⟨_, _, ok_on F_l_on T Dq, g_l_on, F_l_on.kp, b_l_on⟩
  have Df : L_off P w K mg base := ⟨_, _, ok_off F_l_off T Dq, g_l_off, F_l_off.kp, b_l_off⟩
  have Dn' : L_number P w K mg base := ⟨_, _, ok_number F_l_number T Dt, g_l_number, F_l_number.kp, b_l_number⟩
  have Di : L_is P w K mg base := ⟨_, _, ok_is F_l_is T Dw, g_l_is, F_l_is.kp, b_l_is⟩
  have Ds : L_signed P w K mg base := ⟨_, _, ok_signed F_l_signed T Dq, g_l_signed, F_l_signed.kp, b_l_signed⟩
  have D2' : Dn P w K mg base 3 "_law_two" ["_law_pool_here"] sp_draw := ⟨_, _, ok_two F_l_two T Dt Dn', g_l_two, F_l_two.kp, b_l_two⟩
  have Dm : Dn P w K mg base 4 "_law_made_right" ["_law_top", "_law_under"] sp_made := ⟨_, _, ok_made F_l_made_right T Ds Di TC, g_l_made_right, F_l_made_right.kp, b_l_made_right⟩
  have Dr' : Dn P w K mg base 5 "_law_right" ["_law_one", "_law_other", "_law_many"] sp_right := ⟨_, _, ok_right F_l_right T Ds Di Do Df Dq TC MS, g_l_right, F_l_right.kp, b_l_right⟩
  exact ok_law F_law T Dc Dp D2' Dn' Dm Dr'
end K01
open PySem PySem.W PySem.Calls PyProof.Rows
set_option maxRecDepth 100000 in
set_option maxHeartbeats 0 in
theorem PySem.Challenge.cw_rosenames_k01_turns_reckoned_holds : PySem.Challenge.rw_rosenames_k01_turns_reckoned.Holds := by
  w_on; o_law
  refine HandSHeadRun.head_any (r := OpenLaw.row PySem.Challenge.rw_rosenames_k01_turns_reckoned) (q := view (OpenLaw.row PySem.Challenge.rw_rosenames_k01_turns_reckoned).prog [27]) (H := K01.hk) (ob := K01.ob) (M := 6000) (loose := K01.names) (d := HandSHeadRun.topDef (OpenLaw.row PySem.Challenge.rw_rosenames_k01_turns_reckoned).prog 27) (kwd := []) K01.ob_eq
    (by kernel_rfl) (fun s => by kernel_rfl) K01.run (by kernel_rfl) (by kernel_rfl) (by kernel_rfl) (by rfl) (by first | assumption | decide +kernel) (by decide +kernel) ⟨rfl, rfl, rfl, rfl, rfl, by decide +kernel⟩ ?hw ?hc
  case hw => w_witness2
  case hc =>
    refine L2.walk_ofE (l := PySem.Challenge.rw_rosenames_k01_turns_reckoned) (n := 63) (k := 6) (x := "_law_script") (CX := L2.CX0) rfl (by decide) (by kernel_rfl) ⟨rfl, by decide, by decide⟩ ?F (fun _ _ _ _ z => z)
    intro w mg fa h Y G hmg0
    obtain ⟨K, KX, c, cx⟩ := Y
    have hmg : mg ("law" : PySem.Str) = some (.ref fa) := by
      have e : (HandSHeadRun.topDef (OpenLaw.row PySem.Challenge.rw_rosenames_k01_turns_reckoned).prog 27).name = ("law" : PySem.Str) := by kernel_rfl
      rw [← e]
      exact hmg0
    obtain ⟨fd, hb, hF⟩ := K01.facts (P := (PySem.Challenge.rw_rosenames_k01_turns_reckoned).prog) (w := w) KX G hmg c cx
    exact ⟨K, fd, K01.sp_law K, KX, hb, fun H a ns hl _ hS => ⟨a, ns, rfl, hS, hl, fun _ => rfl⟩, hF⟩

