import PyProof.Rows.All
import Wide.All
import OpenK.AllK
import Wide.FinOn
import HandS.ForMost
import HandS.Exc
import HandS.ExcOwn
import HandS.ExcInit
import HandS.ExcField
import HandS.ExcIs
import HandS.TryOnly
import HandS.WordsExc
import HandS.IsInst
import HandS.Wide
import HandS.Codes
import KE.KExcIs
import KE.GoesMore
import HandS.Zip
import HandS.Nested
import HandS.EndTab
import HandS.More
import HandS.SetFor
import HandS.Style
import HandS.TupMul
import HandS.TupAny
import HandS.Conv
import KE.KRevSl
import KE.KNestM
import KE.KLam
import HandS.HeadHook4
import HandS.Flow
import KE.GoesNew
import HandS.TryMany
import HandS.Deep
import HandS.DictTup
import KE.DataMinMax
import KE.DataAny
import HandS.Iter
import KE.KTupSum
import PySem.Challenge.RW_firstsafe_k05_equations_of_cells
set_option Elab.async false
set_option linter.all false
set_option maxRecDepth 100000
set_option maxHeartbeats 4000000
namespace Fs
open PySem PySem.Spec PyProof.Rows L2

/-! ### a def as its callers know it -/
structure Ok (P : Program) (w : World) (K : PySem.W.Frag) (mg : Str → Option Value) (base : Heap) (CX : CXT) (x : Str) (k : Nat) (ps : List Str) (sp : Sp) (f : Addr) (fd : FuncData) : Prop where
  ok : FnOk P w K mg base CX k f fd ps sp
  k : PySem.W.keepIn K (.ref f) = true
  b : Binds K fd ps []
  g : mg x = some (.ref f)
structure DefAt (K : PySem.W.Frag) (mg : Str → Option Value) (x : Str) (st : Stmt) (ps : List Str) (f : Addr) (fd : FuncData) : Prop where
  F : Fun K x x st f fd
  b : Binds K fd ps []
  g : mg x = some (.ref f)
theorem DefAt.mk' {P : Program} {w : World} {K : PySem.W.Frag} {mg : Str → Option Value} {base : Heap} {CX : CXT} {x : Str} {st : Stmt} {k : Nat} {ps : List Str} {sp : Sp} {f : Addr} {fd : FuncData} (D : DefAt K mg x st ps f fd)
    (h : FnOk P w K mg base CX k f fd ps sp) : Ok P w K mg base CX x k ps sp f fd := ⟨h, D.F.kp, D.b, D.g⟩

/-- a word between two statements -/
def Mid (P : Prop) : Prop := False ∨ P
theorem Mid.mk {P : Prop} (h : P) : Mid P := .inr h
theorem Mid.out {P : Prop} (h : Mid P) : P := h.elim (fun z => z.elim) id

/-! ### operators -/
def CMulB (i j : Int) : Prop := IntMulOk i j
theorem op_mulB {X : Cx} : OpR X (binaryOp .Mult) (rI CMulB fun i j => .int (i * j)) := opI fun _ _ _ _ _ _ _ hc q => mul_int q hc
theorem mulL {i j : Int} (h : -18446744073709551616 < i) (h2 : i < 18446744073709551616) : CMulB i j := .of_left (intBits_le_64 (by omega) (by omega))
theorem mulR {i j : Int} (h : -18446744073709551616 < j) (h2 : j < 18446744073709551616) : CMulB i j := .of_right (intBits_le_64 (by omega) (by omega))
theorem dvW {i j : Int} (h : 0 < j) (h2 : j < 18446744073709551616) : CDivW i j := wide_div (b := 64) h (by omega) (by decide) (by decide)

/-! ### heaps -/
/-- all but what stands at p and l is as it was -/
def But (p l : Addr) (H H' : Hp) : Prop := ∀ b o, b ≠ p → b ≠ l → H b = some o → H' b = some o
theorem But.refl (p l : Addr) (H : Hp) : But p l H H := fun _ _ _ _ h => h
theorem But.trans {p l : Addr} {H H1 H2 : Hp} (a : But p l H H1) (b : But p l H1 H2) : But p l H H2 := fun c o h1 h2 h => b c o h1 h2 (a c o h1 h2 h)
theorem Same.but {p l : Addr} {H H' : Hp} (a : Same H H') : But p l H H' := fun b o _ _ h => a b o h
theorem same_new {H : Hp} {p : Addr} {o : HO} (h : H p = none) : Same H (upd H p o) := fun b x e => by
  rw [upd_ne (ne_of_none e h)]
  exact e
theorem but_p {p l : Addr} {H : Hp} {o : HO} : But p l H (upd H p o) := fun b x h1 _ e => by
  rw [upd_ne h1]
  exact e
theorem but_l {p l : Addr} {H : Hp} {o : HO} : But p l H (upd H l o) := fun b x _ h1 e => by
  rw [upd_ne h1]
  exact e
theorem But.seq {K : PySem.W.Frag} {p l a : Addr} {H H' : Hp} {xs : List V} (e : But p l H H') (h1 : a ≠ p) (h2 : a ≠ l) (h : SqL K H a xs) : SqL K H' a xs := by
  rcases h with (h | ⟨o, h⟩) | h
  · exact .inl (.inl (e _ _ h1 h2 h))
  · exact .inl (.inr ⟨o, e _ _ h1 h2 h⟩)
  · exact .inr h
theorem But.seqT {K : PySem.W.Frag} {p l a : Addr} {H H' : Hp} {xs : List V} (e : But p l H H') (h1 : a ≠ p) (h2 : a ≠ l) (h : SqT K H a xs) : SqT K H' a xs := by
  rcases h with (h | ⟨o, h⟩) | h
  · exact .inl (.inl (e _ _ h1 h2 h))
  · exact .inl (.inr ⟨o, e _ _ h1 h2 h⟩)
  · exact .inr h
theorem Same.seqT {K : PySem.W.Frag} {H H' : Hp} {a : Addr} {xs : List V} (e : Same H H') (h : SqT K H a xs) : SqT K H' a xs := by
  rcases h with (h | ⟨o, h⟩) | h
  · exact .inl (.inl (e _ _ h))
  · exact .inl (.inr ⟨o, e _ _ h⟩)
  · exact .inr h

/-! ### the pool of drawn numbers -/
/-- a pool stands at p: two numbers, and the list at l of what is left of the script -/
def PoolAt (H : Hp) (p l : Addr) : Prop := ∃ (n m : Int) (xs : List Int), H p = some (.lst [.int n, .int m, .ref l]) ∧ H l = some (.lst (xs.map V.int)) ∧ p ≠ l ∧ 0 ≤ n ∧ 0 ≤ m ∧ m < 2147483648 ∧ xs.length ≤ 100
theorem PoolAt.same {H H' : Hp} {p l : Addr} (h : PoolAt H p l) (s : Same H H') : PoolAt H' p l := by
  obtain ⟨n, m, xs, h1, h2, r⟩ := h
  exact ⟨n, m, xs, s _ _ h1, s _ _ h2, r⟩
theorem PoolAt.ne {H : Hp} {p l t : Addr} (h : PoolAt H p l) (ht : H t = none) : t ≠ p ∧ t ≠ l := by
  obtain ⟨n, m, xs, h1, h2, r⟩ := h
  exact ⟨(ne_of_none h1 ht).symm, (ne_of_none h2 ht).symm⟩
def spPool (K : PySem.W.Frag) : Sp := fun vs H Q _ => ∃ (a : Addr) (ns : List Int), vs = [.ref a] ∧ SqL K H a (ns.map V.int) ∧ ns.length ≤ 63 ∧
  ∀ (H' : Hp) (p l : Addr), Same H H' → H p = none → H l = none → PoolAt H' p l → Q (.ref p) H'
def spDraw : Sp := fun vs H Q _ => ∃ (p l : Addr) (many : Int), vs = [.ref p, .int many] ∧ PoolAt H p l ∧ 1 ≤ many ∧ many < 4611686018427387904 ∧
  ∀ (v : Int) (H' : Hp), 0 ≤ v → v < many → PoolAt H' p l → But p l H H' → Q (.int v) H'
def spPick (K : PySem.W.Frag) : Sp := fun vs H Q _ => ∃ (p l t : Addr) (xs : List V), vs = [.ref p, .ref t] ∧ PoolAt H p l ∧ t ≠ p ∧ t ≠ l ∧ SqL K H t xs ∧ 1 ≤ xs.length ∧ xs.length ≤ 1000 ∧
  ∀ (x : V) (H' : Hp), x ∈ xs → PoolAt H' p l → But p l H H' → Q x H'

/-! ### whole numbers -/
/-- values whose kind is told: no number, a truth value, a number, a text, a tuple, a list -/
def Kn (K : PySem.W.Frag) (H : Hp) (v : V) : Prop := v = .non ∨ (∃ b, v = .bl b) ∨ (∃ i, v = .int i) ∨ (∃ s, v = .str s) ∨ (∃ a xs, v = .ref a ∧ H a = some (.tup xs)) ∨ ∃ a xs, v = .ref a ∧ H a = some (.lst xs)
def wholeV : V → Bool
  | .int _ => true
  | _ => false
def spWhole (K : PySem.W.Frag) : Sp := fun vs H Q _ => ∃ v, vs = [v] ∧ Kn K H v ∧ Q (.bl (wholeV v)) H
/-- isinstance(v, int), isinstance(v, bool) -/
def isIntV : V → Bool
  | .int _ => true
  | .bl _ => true
  | _ => false
def isBoolV : V → Bool
  | .bl _ => true
  | _ => false
theorem isi_int {K : PySem.W.Frag} {H : Hp} {v : V} (h : Kn K H v) : ∃ t, TyX K H v t ∧ PySem.W.kitOne K t (.type "int") = some (isIntV v) ∧ PySem.W.kitOne K t (.type "bool") = some (isBoolV v) := by
  rcases h with rfl | ⟨b, rfl⟩ | ⟨i, rfl⟩ | ⟨s, rfl⟩ | ⟨a, xs, rfl, ha⟩ | ⟨a, xs, rfl, ha⟩
  · exact ⟨_, .base .non, kit_ty (r := false) (by decide +kernel), kit_ty (r := false) (by decide +kernel)⟩
  · exact ⟨_, .base (.bl _), kit_ty (r := true) (by decide +kernel), kit_ty (r := true) (by decide +kernel)⟩
  · exact ⟨_, .base (.int _), kit_ty (r := true) (by decide +kernel), kit_ty (r := false) (by decide +kernel)⟩
  · exact ⟨_, .base (.str _), kit_ty (r := false) (by decide +kernel), kit_ty (r := false) (by decide +kernel)⟩
  · exact ⟨_, .base (.tup ha), kit_ty (r := false) (by decide +kernel), kit_ty (r := false) (by decide +kernel)⟩
  · exact ⟨_, .base (.lst ha), kit_ty (r := false) (by decide +kernel), kit_ty (r := false) (by decide +kernel)⟩

/-! ### lists -/
theorem list_new {α : Type} : ∀ xs : List α, xs = [] ∨ ∃ x r, xs = x :: r
  | [] => .inl rfl
  | x :: r => .inr ⟨x, r, rfl⟩
theorem dp_ints {K : PySem.W.Frag} {H : Hp} : ∀ xs : List Int, DpAll K H (xs.map V.int) (xs.map PyData.int)
  | [] => .nil
  | _ :: r => .cons (.int _) (dp_ints r)
theorem shaped_nil : SeqAt.shaped (.list []) = true := by decide +kernel
theorem can_ints : ∀ xs : List Int, PyData.canLayAll0 (xs.map PyData.int) = true
  | [] => by simp [PyData.canLayAll0]
  | x :: r => by
    rw [List.map_cons, PyData.canLayAll0, can_ints r]
    rfl
theorem depth_ints : ∀ xs : List Int, PyData.depthAll (xs.map PyData.int) ≤ 1
  | [] => by simp [PyData.depthAll]
  | x :: r => by
    have h := depth_ints r
    rw [List.map_cons, PyData.depthAll]
    simp only [PyData.depth]
    omega
theorem shaped_ints (xs : List Int) : SeqAt.shaped (.list (xs.map PyData.int)) = true := by
  have h1 : (PyData.list (xs.map PyData.int)).canLay0 = true := by
    rw [PyData.canLay0]
    exact can_ints xs
  have h2 := depth_ints xs
  unfold SeqAt.shaped
  rw [h1]
  refine decide_eq_true ?_
  simp only [PyData.depth]
  omega
theorem shaped_intsT (xs : List Int) : SeqAt.shaped (.tuple (xs.map PyData.int)) = true := by
  have h1 : (PyData.tuple (xs.map PyData.int)).canLay0 = true := by
    rw [PyData.canLay0]
    exact can_ints xs
  have h2 := depth_ints xs
  unfold SeqAt.shaped
  rw [h1]
  refine decide_eq_true ?_
  simp only [PyData.depth]
  omega
theorem eqv_nil_nil : (!PyData.eqv (.list (([] : List Int).map PyData.int)) (.list [])) = false := by decide +kernel
theorem eqv_cons_nil {x : Int} {r : List Int} : (!PyData.eqv (.list ((x :: r).map PyData.int)) (.list [])) = true := by
  rw [List.map_cons, PyData.eqv, PyData.eqvAll]
  rfl
theorem cut_one (xs : List V) : cutV xs (some 1) none = xs.drop 1 := by
  have h1 : HT.sIx xs.length 0 (some 1) = min 1 xs.length := HT.sIx_nat xs.length 0 1
  unfold cutV
  rw [h1, HT.sIx_none]
  rcases list_new xs with rfl | ⟨x, r, rfl⟩
  · rfl
  · have h2 : min 1 (x :: r).length = 1 := by
      rw [List.length_cons]
      omega
    rw [h2, List.length_cons]
    show List.take (r.length + 1 - 1) r = r
    rw [Nat.add_sub_cancel, List.take_length]
end Fs

namespace Fs
open PySem PySem.Spec PyProof.Rows L2
/-! ### primes -/
def NoDiv (n : Int) : Prop := ∀ d : Int, 2 ≤ d → d * d ≤ n → n % d ≠ 0
def PrimeV : V → Prop
  | .int n => 2 ≤ n ∧ n ≤ 65521 ∧ NoDiv n
  | _ => False
theorem sq_lt {d n : Int} (h : d * d ≤ n) (hn : n < 65536) (h0 : 0 ≤ d) : d < 256 := by
  refine Int.not_le.mp fun q => ?_
  have := Int.mul_le_mul q q (by omega) h0
  omega
theorem sq_le {d e : Int} (h0 : 0 ≤ e) (h : e ≤ d) : e * e ≤ d * d := Int.mul_le_mul h h h0 (by omega)
theorem mod_of_sub {n d : Int} : n - n / d * d = n % d := by
  rw [Int.emod_def, Int.mul_comm]
def betV (lo hi : Int) : V → Bool
  | .int n => decide (lo ≤ n) && decide (n ≤ hi)
  | _ => false
def spBetween (K : PySem.W.Frag) : Sp := fun vs H Q _ => ∃ (v : V) (lo hi : Int), vs = [v, .int lo, .int hi] ∧ Kn K H v ∧ Q (.bl (betV lo hi v)) H
def spIsPrime (K : PySem.W.Frag) : Sp := fun vs H Q _ => ∃ (v : V), vs = [v] ∧ Kn K H v ∧ ∀ b : Bool, (b = true ↔ PrimeV v) → Q (.bl b) H
theorem kn_int {K : PySem.W.Frag} {H : Hp} (i : Int) : Kn K H (.int i) := .inr (.inr (.inl ⟨i, rfl⟩))
theorem kn_bl {K : PySem.W.Frag} {H : Hp} (i : Bool) : Kn K H (.bl i) := .inr (.inl ⟨i, rfl⟩)
theorem kn_str {K : PySem.W.Frag} {H : Hp} (i : Str) : Kn K H (.str i) := .inr (.inr (.inr (.inl ⟨i, rfl⟩)))
theorem kn_tup {K : PySem.W.Frag} {H : Hp} {a : Addr} {xs : List V} (h : H a = some (.tup xs)) : Kn K H (.ref a) := .inr (.inr (.inr (.inr (.inl ⟨a, xs, rfl, h⟩))))
theorem Kn.same {K : PySem.W.Frag} {H H' : Hp} {v : V} (h : Kn K H v) (s : Same H H') : Kn K H' v := by
  rcases h with h | h | h | h | ⟨a, xs, h1, h2⟩ | ⟨a, xs, h1, h2⟩
  · exact .inl h
  · exact .inr (.inl h)
  · exact .inr (.inr (.inl h))
  · exact .inr (.inr (.inr (.inl h)))
  · exact .inr (.inr (.inr (.inr (.inl ⟨a, xs, h1, s _ _ h2⟩))))
  · exact .inr (.inr (.inr (.inr (.inr ⟨a, xs, h1, s _ _ h2⟩))))
end Fs

namespace Fs
open PySem PySem.Spec PyProof.Rows L2
/-! ### errors of the package, made and caught -/
/-- isinstance(e, c), e the caught exception at a of the class at C, its dict at d -/
def rIsD (K : PySem.W.Frag) (C a : Addr) (cls : Value) (d : Option Addr) : List V → Hp → VK → Prop := fun xs H Q => ∃ (c : V) (cv : Value) (b : Bool) (dd : Addr) (fs : List (Str × V)), xs = [.ref a, c] ∧ (∀ u, RelV c u → u = cv) ∧ cls = .ref C ∧ d = some dd ∧ H dd = some (.xd fs) ∧ PySem.W.kitOne K (.ref C) cv = some b ∧ Q (.bl b) H
theorem isSome_of_hasDict {K : PySem.W.Frag} {C : Addr} (h : PySem.W.hasDictIn K C = true) : (PySem.W.clsIn K C).isSome = true := by
  obtain ⟨cd, hc, _⟩ := PySem.W.any_some h
  rw [hc]
  rfl
theorem call_isD {X : Cx} {a C : Addr} {oe : Obj} {cls : Value} {d : Option Addr} {pn : List (Addr × Obj)} (T : ExcC X.K C) (hz : Zc cls d oe) (hf : ∃ vs, oe.data = .fields vs) : CallR (X.suite a ((a, oe) :: pn)) (.builtin "isinstance") (rIsD X.K C a cls d) := by
  intro pins s σ H xs us Q I r h
  obtain ⟨c, cv, b, dd, fs, rfl, hcv, rfl, rfl, hd, e, q⟩ := h
  cases r with
  | cons rx rr =>
    cases rr with
    | cons rt rr =>
      cases rr
      cases rx
      have ec := hcv _ rt
      subst ec
      obtain ⟨hget, _⟩ := I.pin (a, oe) (List.mem_append.mpr (.inl List.mem_cons_self))
      obtain ⟨vs, hv⟩ := hf
      obtain ⟨mA, hns, hr⟩ : ObjOk X.prog X.w H s.heap dd (.xd fs) := I.hok dd _ hd
      obtain ⟨od, ho, hl⟩ := lookIn_ns hns
      have J : PySem.W.InstAt s.heap a oe C (some od) := ⟨hget, hz.1, by unfold PySem.W.notCls; rw [hv] <;> rfl, by rw [hz.2]; exact ho⟩
      exact PySem.W.kia_one (PySem.W.kitx_exc (isSome_of_hasDict T.hd) T.hg T.hk T.hs T.ha T.hn T.ht T.hm) I.kIn J e (fun z => nomatch z) fun tk => ⟨.bl b, H, I.kept (t' := tk) fun _ _ z => z, rfl, q⟩
/-- what the written part says of an error class x at C; fI: its __init__, CR: the base class of all -/
structure ErrC (K : PySem.W.Frag) (mg : Str → Option Value) (x : Str) (C fI CR : Addr) : Prop where
  T : OexC K C
  iC : PySem.W.findIn K (.ref C) "__init__" = some (some (.ref fI))
  tI : PySem.W.typeIn K (.ref fI) = some (.type "function")
  g : mg x = some (.ref C)
  nW : PySem.W.findIn K (.ref C) "what" = some none
  X : ExcC K C
  XF : XfC K C
  te : PySem.W.exmOne K (.ref C) (.ref C) = some true
  isR : PySem.W.kitOne K (.ref C) (.ref CR) = some true
  isV : PySem.W.kitOne K (.ref C) (.type "ValueError") = some true
/-- the __init__ of the base class: self.what = what -/
def spErrInit (K : PySem.W.Frag) : Sp := fun vs H Q _ => ∃ (a C : Addr) (y : V), vs = [.ref a, y] ∧ OexC K C ∧ PySem.W.findIn K (.ref C) "what" = some none ∧ H a = some (exo a C none) ∧
  ∀ dx, H dx = none → dx ≠ a → Q .non (upd (upd H dx (exd dx [("what", y)])) a (exo a C (some dx)))
theorem heap_made {H : Hp} {a d : Addr} {o1 o2 o3 o4 : HO} (ha : H a = none) (hd : d ≠ a) : upd (del (upd (upd (upd H a o1) d o2) a o3) a) d o4 = upd H d o4 := by
  funext b
  by_cases h1 : b = d
  · subst h1
    rw [upd_same, upd_same]
  · rw [upd_ne h1, upd_ne h1]
    by_cases h2 : b = a
    · subst h2
      rw [del_same, ha]
    · rw [del_ne h2, upd_ne h2, upd_ne h1, upd_ne h2]
/-- the reading of X(e) is done by this: an error with its dict, new -/
theorem made_err {K : PySem.W.Frag} {mg : Str → Option Value} {x : Str} {C fI CR : Addr} (E : ErrC K mg x C fI CR) {H : Hp} {y : V} {Q : XK} (q : ∀ d, H d = none → Q (.ref C) (some d) (upd H d (.xd [("what", y)]))) :
    [y].length ≤ 1000 ∧ ∀ a, H a = none → spErrInit K (.ref a :: ([y] ++ [])) (upd H a (exo a C none))
      (fun v H2 => v = .non ∧ ∃ (d : Addr) (fs : List (Str × V)), H2 a = some (exo a C (some d)) ∧ H2 d = some (exd d fs) ∧ H d = none ∧ Q (.ref C) (some d) (upd (del H2 a) d (.xd fs))) (fun _ _ _ => False) := by
  refine ⟨by show 1 ≤ 1000; decide, fun a ha => ⟨a, C, y, rfl, E.T, E.nW, upd_same, fun dx hdx hne => ⟨rfl, dx, [("what", y)], upd_same, ?_, ?_, ?_⟩⟩⟩
  · rw [upd_ne hne, upd_same]
  · rw [upd_ne hne] at hdx
    exact hdx
  · rw [heap_made ha hne]
    rw [upd_ne hne] at hdx
    exact q dx hdx
/-- the suite of the laws' try: the pair ('refused', e.what) -/
def tSuiteR (K : PySem.W.Frag) (C CR : Addr) (i : Nat) : Addr → Value → Option Addr → TS := fun a cls d =>
  tRet (tIf (tAnd (tB (tCB (rIsD K C a cls d) (tCons (tVar i) (tCons (tC (.ref CR)) tNil)))) (tB (tCB (rIsD K C a cls d) (tCons (tVar i) (tCons (tC (.ty "ValueError")) tNil)))))
    (tTup (tCons (tC (.str "refused")) (tCons (tXf a cls d C "what" (tVar i)) tNil))) (tTup (tCons (tC (.str "odd")) (tCons (tC (.int 0)) tNil))))
theorem suiteR {K : PySem.W.Frag} {mg : Str → Option Value} {x : Str} {C fI CR a d : Addr} (E : ErrC K mg x C fI CR) {D : Ends} {σ : L2.St} {H : Hp} {i : Nat} {y : V} (hi : σ[i]? = some (some (V.ref a))) (hd : H d = some (.xd [("what", y)]))
    (q : ∀ p, H p = none → D.rt (.ref p) (upd H p (.tup [.str "refused", y]))) : tSuiteR K C CR i a (.ref C) (some d) D σ H := by
  refine ⟨_, hi, _, _, true, d, _, rfl, fun u r => r, rfl, rfl, hd, E.isR, true, rfl, ?_⟩
  refine iteT ?_
  refine ⟨_, hi, _, _, true, d, _, rfl, fun u r => r, rfl, rfl, hd, E.isV, true, rfl, ?_⟩
  refine iteT ?_
  refine ⟨_, hi, rfl, rfl, d, _, y, rfl, hd, rfl, ?_⟩
  exact ⟨by show 2 ≤ sizeLine; decide, fun p hp => q p hp⟩
end Fs

namespace Fs
open PySem PySem.Spec PyProof.Rows L2
/-! ### the inverse of a number modulo a prime -/
theorem nodiv_small {n : Int} (h : n < 65536) (hd : ∀ d : _root_.Fin 256, 2 ≤ d.val → d.val * d.val ≤ n.toNat → n % (d.val : Int) ≠ 0) : NoDiv n := fun d d2 hdn => by
  have h1 := sq_lt hdn h (by omega)
  have e : ((d.toNat : Nat) : Int) = d := by omega
  have e2 : ((d.toNat * d.toNat : Nat) : Int) = d * d := by rw [Int.natCast_mul, e]
  have z := hd ⟨d.toNat, by omega⟩ (by show 2 ≤ d.toNat; omega) (by show d.toNat * d.toNat ≤ n.toNat; omega)
  rw [← e]
  exact z
theorem prime_gcd {p r : Int} (p2 : 2 ≤ p) (hp : NoDiv p) (r0 : 0 < r) (r1 : r < p) : Int.gcd p r = 1 := by
  have g1 : ((Int.gcd p r : Nat) : Int) ∣ p := Int.gcd_dvd_left ..
  have g2 : ((Int.gcd p r : Nat) : Int) ∣ r := Int.gcd_dvd_right ..
  have g0 : 0 < Int.gcd p r := Int.gcd_pos_of_ne_zero_right _ (by omega)
  generalize Int.gcd p r = g at g1 g2 g0
  by_cases h : g = 1
  · exact h
  · exfalso
    have gr : (g : Int) ≤ r := Int.le_of_dvd r0 g2
    obtain ⟨q, hq⟩ := g1
    have q0 : 0 < q := by
      refine Int.not_le.mp fun z => ?_
      have := Int.mul_nonpos_of_nonneg_of_nonpos (show (0 : Int) ≤ (g : Int) by omega) z
      omega
    have q2 : 2 ≤ q := by
      refine Int.not_lt.mp fun z => ?_
      have e : q = 1 := by omega
      rw [e, Int.mul_one] at hq
      omega
    rcases Int.le_total (g : Int) q with hl | hl
    · have := Int.mul_le_mul_of_nonneg_left hl (show (0 : Int) ≤ (g : Int) by omega)
      refine hp g (by omega) (by omega) ?_
      rw [hq]
      exact Int.mul_emod_right _ _
    · have := Int.mul_le_mul_of_nonneg_right hl (show (0 : Int) ≤ q by omega)
      refine hp q q2 (by omega) ?_
      rw [hq]
      exact Int.mul_emod_left _ _
/-- what holds between the turns of Euclid's loop -/
structure Euc (a p left rest before found : Int) : Prop where
  r0 : 0 < rest
  r1 : rest < left
  r2 : left ≤ p
  co : Int.gcd left rest = 1
  dl : p ∣ before * a - left
  dr : p ∣ found * a - rest
theorem Euc.start {a p : Int} (p2 : 2 ≤ p) (hp : NoDiv p) (h : a % p ≠ 0) : Euc a p p (a % p) 0 1 where
  r0 := by have := Int.emod_nonneg a (show p ≠ 0 by omega); omega
  r1 := Int.emod_lt_of_pos a (by omega)
  r2 := Int.le_refl p
  co := prime_gcd p2 hp (by have := Int.emod_nonneg a (show p ≠ 0 by omega); omega) (Int.emod_lt_of_pos a (by omega))
  dl := ⟨-1, by omega⟩
  dr := ⟨a / p, by have := Int.emod_add_mul_ediv a p; omega⟩
theorem Euc.step {a p left rest before found : Int} (E : Euc a p left rest before found) (h : 1 < rest) : Euc a p rest (left - left / rest * rest) found (before - left / rest * found) := by
  have e : left - left / rest * rest = left % rest := mod_of_sub
  have m0 := Int.emod_nonneg left (show rest ≠ 0 by omega)
  have m1 := Int.emod_lt_of_pos left (show 0 < rest by omega)
  have co : Int.gcd rest (left % rest) = 1 := by
    rw [← e, Int.gcd_sub_mul_right_right, Int.gcd_comm, E.co]
  refine ⟨?_, by omega, by have := E.r1; have := E.r2; omega, by rw [e]; exact co, E.dr, ?_⟩
  · rw [e]
    refine Int.not_le.mp fun z => ?_
    have z2 : left % rest = 0 := by omega
    rw [z2, Int.gcd_zero_right] at co
    omega
  · obtain ⟨x, hx⟩ := E.dl
    obtain ⟨y, hy⟩ := E.dr
    refine ⟨x - left / rest * y, ?_⟩
    have e1 : (before - left / rest * found) * a = before * a - left / rest * (found * a) := by rw [Int.sub_mul, Int.mul_assoc]
    have e2 : found * a = p * y + rest := by omega
    have e3 : before * a = p * x + left := by omega
    rw [e1, e2, e3, Int.mul_sub, Int.mul_add, ← Int.mul_assoc p, Int.mul_comm p (left / rest), Int.mul_assoc]
    omega
theorem Euc.done {a p left rest before found : Int} (E : Euc a p left rest before found) (p2 : 2 ≤ p) (h : ¬ 1 < rest) : (found % p * a - 1) % p = 0 := by
  have e : rest = 1 := by have := E.r0; omega
  obtain ⟨y, hy⟩ := E.dr
  have e2 : found * a = p * y + 1 := by omega
  have e3 := Int.emod_add_mul_ediv found p
  have e4 : found % p = found - p * (found / p) := by omega
  rw [e4, Int.sub_mul, e2]
  have e5 : p * y + 1 - p * (found / p) * a - 1 = p * (y - found / p * a) := by
    rw [Int.mul_sub, Int.mul_assoc]
    omega
  rw [e5]
  exact Int.mul_emod_right _ _
def spInverse (C : Addr) : Sp := fun vs H Q E => ∃ (a p : Int), vs = [.int a, .int p] ∧ 2 ≤ p ∧ p ≤ 65521 ∧ NoDiv p ∧
  (a % p = 0 → ∀ d : Addr, H d = none → E (.ref C) (some d) (upd H d (.xd [("what", .int a)]))) ∧
  (a % p ≠ 0 → ∀ b : Int, 0 ≤ b → b < p → (b * a - 1) % p = 0 → ∀ H', Same H H' → Q (.int b) H')

/-! ### binomials -/
def bin : Nat → Nat → Int
  | _, 0 => 1
  | 0, _ + 1 => 0
  | n + 1, k + 1 => bin n k + bin n (k + 1)
theorem bin_zero (n : Nat) : bin n 0 = 1 := by cases n <;> rfl
theorem bin_above : ∀ (n k : Nat), n < k → bin n k = 0
  | 0, 0, h => by omega
  | 0, _ + 1, _ => rfl
  | _ + 1, 0, h => by omega
  | n + 1, k + 1, h => by
    show bin n k + bin n (k + 1) = 0
    rw [bin_above n k (by omega), bin_above n (k + 1) (by omega)]
    rfl
theorem bin_self : ∀ n : Nat, bin n n = 1
  | 0 => rfl
  | n + 1 => by
    show bin n n + bin n (n + 1) = 1
    rw [bin_self n, bin_above n (n + 1) (by omega)]
    rfl
theorem bin_step : ∀ (n k : Nat), bin n (k + 1) * ((k : Int) + 1) = bin n k * ((n : Int) - (k : Int))
  | 0, 0 => by
    show (0 : Int) * _ = 1 * _
    omega
  | 0, k + 1 => by
    show (0 : Int) * _ = 0 * _
    rw [Int.zero_mul, Int.zero_mul]
  | n + 1, 0 => by
    have h := bin_step n 0
    show (bin n 0 + bin n 1) * _ = bin (n + 1) 0 * _
    rw [bin_zero, bin_zero] at *
    have h2 : bin n (0 + 1) = bin n 1 := rfl
    rw [h2] at h
    omega
  | n + 1, k + 1 => by
    have h1 := bin_step n k
    have h2 := bin_step n (k + 1)
    show (bin n (k + 1) + bin n (k + 1 + 1)) * (((k + 1 : Nat) : Int) + 1) = (bin n k + bin n (k + 1)) * (((n + 1 : Nat) : Int) - ((k + 1 : Nat) : Int))
    have e1 : ((k + 1 : Nat) : Int) = (k : Int) + 1 := by omega
    have e2 : ((n + 1 : Nat) : Int) = (n : Int) + 1 := by omega
    rw [e1] at h2 ⊢
    rw [e2, Int.add_mul, h2, Int.add_mul, show (n : Int) + 1 - ((k : Int) + 1) = (n : Int) - (k : Int) by omega, ← h1, Int.mul_sub, Int.mul_sub, Int.mul_add, Int.mul_add]
    omega
theorem bin_next {n k : Nat} (h : k < n) : bin n k * ((n : Int) - (k : Int)) / ((k : Int) + 1) = bin n (k + 1) := by
  rw [← bin_step]
  exact Int.mul_ediv_cancel _ (by omega)
def spChoose (K : PySem.W.Frag) : Sp := fun vs H Q _ => ∃ (n j : Nat) (p : Int), vs = [.int n, .int j, .int p] ∧ n ≤ 99 ∧ 2 ≤ p ∧ ∀ H', Same H H' → Q (.int (bin n j % p)) H'
def spWays : Sp := fun vs H Q _ => ∃ (n j : Nat), vs = [.int n, .int j] ∧ n ≤ 99 ∧ j ≤ 1000 ∧ Q (.int (bin n j)) H
/-- a row of the triangle modulo p -/
def triRow (p : Int) (n : Nat) : List Int := (List.range (n + 1)).map fun k => bin n k % p
def triIn (p : Int) (n i : Nat) : List Int := (List.range i).map fun k => bin (n + 1) (k + 1) % p
theorem triRow_len (p : Int) (n : Nat) : (triRow p n).length = n + 1 := by
  unfold triRow
  rw [List.length_map, List.length_range]
theorem triRow_get {p : Int} {n k : Nat} (h : k ≤ n) : (triRow p n)[k]? = some (bin n k % p) := by
  unfold triRow
  rw [List.getElem?_map, List.getElem?_range (by omega)]
  rfl
theorem triIn_len (p : Int) (n i : Nat) : (triIn p n i).length = i := by
  unfold triIn
  rw [List.length_map, List.length_range]
theorem triIn_succ (p : Int) (n i : Nat) : triIn p n (i + 1) = triIn p n i ++ [(bin n i % p + bin n (i + 1) % p) % p] := by
  unfold triIn
  rw [List.range_succ, List.map_append]
  show _ ++ [(bin n i + bin n (i + 1)) % p] = _
  rw [Int.add_emod]
theorem triRow_next {p : Int} (h : 2 ≤ p) (n : Nat) : [(1 : Int)] ++ triIn p n n ++ [1] = triRow p (n + 1) := by
  have o : (1 : Int) % p = 1 := Int.emod_eq_of_lt (by omega) (by omega)
  unfold triRow triIn
  rw [List.range_succ_eq_map, List.map_cons, bin_zero, o, List.range_succ, List.map_append, List.map_append, List.map_map]
  show (1 : Int) :: ((List.range n).map _ ++ [1]) = 1 :: ((List.range n).map _ ++ [bin (n + 1) (n + 1) % p])
  rw [bin_self, o]
  rfl
theorem triRow_zero {p : Int} (h : 2 ≤ p) : [(1 : Int)] = triRow p 0 := by
  have o : (1 : Int) % p = 1 := Int.emod_eq_of_lt (by omega) (by omega)
  show [(1 : Int)] = [bin 0 0 % p]
  rw [bin_zero, o]
end Fs
namespace Fs
open PySem PySem.Spec PyProof.Rows L2
/-- a comprehension over zip of two lists, n the lesser length -/
theorem lc_zipN {K : PySem.W.Frag} {a b : Addr} {xs ys : List V} {g : TG} {tt : TT} {te : TE} {vs : List Nat} {σ : L2.St} {H1 : Hp} {D : Addr} {Qd : Hp → Prop} (n : Nat) (hx : n ≤ xs.length) (hy : n ≤ ys.length) (hn : n = xs.length ∨ n = ys.length) (Pv : Nat → Hp → Prop) (h0 : Pv 0 (upd H1 D (.lst [])))
    (hq : ∀ i H, Pv i H → SqL K H a xs ∧ SqL K H b ys)
    (hs : ∀ i x y T H, xs[i]? = some x → ys[i]? = some y → Pv i H → H T = none → g (.ref T) (wipe σ vs) (upd H T (.tup [x, y])) fun σ2 H2 => wipe σ2 vs = wipe σ vs ∧ tt σ2 H2 fun k H3 =>
      if k = true then te σ2 H3 fun z H4 => ∃ acc, H4 D = some (.lst acc) ∧ acc.length < sizeLine ∧ Pv (i + 1) (upd H4 D (.lst (acc ++ [z]))) else Pv (i + 1) H3) (hd : ∀ H, Pv n H → Qd H) :
    ∃ W : Nat → Nat → Hp → Prop, (∃ m, W 0 m (upd H1 D (.lst []))) ∧ ∀ i m H, W i m H →
      ((Itz K a b).stop i H ∧ Qd H) ∨ ((Itz K a b).go i H ∧ ∃ Nx : Hp → Prop, (∀ H', Nx H' → ∃ m', m' < m ∧ W (i + 1) m' H') ∧ ∀ x H', (Itz K a b).yld i H x H' → g x (wipe σ vs) H' fun σ2 H2 => wipe σ2 vs = wipe σ vs ∧ tt σ2 H2 fun k H3 =>
        if k = true then te σ2 H3 fun z H4 => ∃ acc, H4 D = some (.lst acc) ∧ acc.length < sizeLine ∧ Nx (upd H4 D (.lst (acc ++ [z]))) else Nx H3) := by
  refine ⟨fun i m H => m = n - i ∧ i ≤ n ∧ Pv i H, ⟨n, rfl, Nat.zero_le _, h0⟩, ?_⟩
  rintro i m H ⟨rfl, hi, p⟩
  obtain ⟨qx, qy⟩ := hq i H p
  by_cases hlt : i < n
  · refine .inr ⟨⟨xs, ys, _, _, qx, qy, List.getElem?_eq_getElem (Nat.lt_of_lt_of_le hlt hx), List.getElem?_eq_getElem (Nat.lt_of_lt_of_le hlt hy)⟩, Pv (i + 1), fun H' p' => ⟨n - (i + 1), by omega, rfl, hlt, p'⟩, fun v H' y => ?_⟩
    obtain ⟨T, x', y', rfl, hT, rfl, f1, f2⟩ := y
    exact hs i x' y' T H (f1 xs qx) (f2 ys qy) p hT
  · have e : i = n := by omega
    subst e
    refine .inl ⟨⟨xs, ys, qx, qy, ?_⟩, hd H p⟩
    rcases hn with h | h
    · exact .inl (by omega)
    · exact .inr (by omega)
theorem shaped_ref (i : Int) : SeqAt.shaped (.tuple [.str "refused", .int i]) = true := by
  have h0 : PyData.strOk "refused" = true := by decide +kernel
  have h1 : (PyData.tuple [.str "refused", .int i]).canLay0 = true := by
    simp [PyData.canLay0, PyData.canLayAll0, h0]
  have h2 : (PyData.tuple [.str "refused", .int i]).depth ≤ 64 := by
    simp [PyData.depth, PyData.depthAll]
  unfold SeqAt.shaped
  rw [h1, decide_eq_true h2]
  rfl
theorem eqv_ref (s : Str) (i : Int) : PyData.eqv (.tuple [.str s, .int i]) (.tuple [.str s, .int i]) = true := by
  simp [PyData.eqv, PyData.eqvAll]
def spInverted : Sp := fun vs H Q _ => ∃ (a p : Int), vs = [.int a, .int p] ∧ 2 ≤ p ∧ p ≤ 65521 ∧ NoDiv p ∧
  (a % p = 0 → ∀ t H', Same H H' → H' t = some (.tup [.str "refused", .int a]) → Q (.ref t) H') ∧
  (a % p ≠ 0 → ∀ (b : Int) t H', 0 ≤ b → b < p → (b * a - 1) % p = 0 → Same H H' → H' t = some (.tup [.int b]) → Q (.ref t) H')
def spInvRight : Sp := fun vs H Q _ => ∃ (a p : Int), vs = [.int a, .int p] ∧ 2 ≤ p ∧ p ≤ 65521 ∧ NoDiv p ∧ ∀ H', Same H H' → Q (.bl true) H'
end Fs

/-! enumerate(tuple): made, walked, as a rule. -/
namespace FsE
open PySem
open PySem.Sem (wp)
open AutoSeq1 (wpAny_loadPart')
theorem meets_enum_tup (l : Addr) (items : Array Value) (n : Nat) (dct : Option Addr) (sl : Array (Option Value)) :
    Meets (Builtin.«enumerate.__new__» ⟨[.type "enumerate", .ref l], []⟩) (fun _ R s => s.heap.get? l = some { cls := .type "tuple", dict := dct, data := .seq items n, slots := sl } ∧
      R (.ok (.ret (.ref (s.heap.push { cls := .type "tuple_iterator", data := .fields #[.ref l, .int 0 0] }).objs.size)))
        { s with heap := (s.heap.push { cls := .type "tuple_iterator", data := .fields #[.ref l, .int 0 0] }).push { cls := .type "enumerate", data := .fields #[.none, .bool false, .ref s.heap.objs.size, rawInt 0, .none, .none] } }) :=
  .of_wp fun prog w A R s hyp => by
    obtain ⟨hp, g, d, tk, os⟩ := s
    obtain ⟨hl, hR⟩ := hyp
    have hsub := sub_enumerate
    have hT : Heap.IsTuple (Shared.heap ⟨hp, g, d, tk, os⟩) l items := ⟨_, hl, rfl, n, rfl⟩
    wp_walk using wpAny_loadPart' hl
    refine wpAny_stack_any fun stk => wpAny_pure ?_
    split
    · rename_i c _ _ _ _ _
      cases (c == Value.type "enumerate")
      · wp_walk using wpAny_loadPart' hl, wpAny_pyIter_tuple hT
        exact ⟨_, rfl, hR⟩
      · wp_walk using wpAny_loadPart' hl, wpAny_pyIter_tuple hT
        exact ⟨_, rfl, hR⟩
    · wp_walk using wpAny_loadPart' hl, wpAny_pyIter_tuple hT
      exact ⟨_, rfl, hR⟩
section
variable {prog : Program} {w : World} {A : Around} {E : Value → Shared → Prop} {s : Shared}
theorem call_enum_tup {l : Addr} {items : Array Value} {Q : Value → Shared → Prop} (hT : s.heap.IsTuple l items)
    (hQ : ∀ h1, IsEnum h1 (s.heap.objs.size + 1) s.heap.objs.size 0 .none → h1.IsTupleIter s.heap.objs.size l 0 →
      (∀ b o, s.heap.get? b = some o → h1.get? b = some o) → Q (.ref (s.heap.objs.size + 1)) { s with heap := h1 }) :
    wpAny (model prog w) A (call (.type "enumerate") [.ref l]) Q E s := by
  obtain ⟨⟨c, dct, dt, sl⟩, hl, hc, n, hd⟩ := hT
  have hc2 : c = .type "tuple" := hc
  have hd2 : dt = .seq items n := hd
  subst hc2 hd2
  refine callType_new F.called_enumerate (by decide) (F.typeCall_enumerate_1 _) (F.newCall_enumerate_1 _) (fun ob => F.args_object_init_2 ob _) F.entry_enumerate_new (meets_enum_tup l items n dct sl) ⟨hl, ?_⟩
  have size1 : (s.heap.push { cls := .type "tuple_iterator", data := .fields #[.ref l, .int 0 0] }).objs.size = s.heap.objs.size + 1 := Heap.size_push ..
  show _ ∧ _
  rw [size1]
  have isE : IsEnum ((s.heap.push { cls := .type "tuple_iterator", data := .fields #[.ref l, .int 0 0] }).push
      { cls := .type "enumerate", data := .fields #[.none, .bool false, .ref s.heap.objs.size, rawInt 0, .none, .none] }) (s.heap.objs.size + 1) s.heap.objs.size 0 .none := by
    have got := Heap.get?_push_size (s.heap.push { cls := .type "tuple_iterator", data := .fields #[.ref l, .int 0 0] })
      (o := { cls := .type "enumerate", data := .fields #[.none, .bool false, .ref s.heap.objs.size, rawInt 0, .none, .none] }) rfl
    rw [size1] at got
    exact got
  exact ⟨⟨_, isE, rfl⟩, hQ _ isE ⟨_, Heap.get?_push_of_some _ (Heap.get?_push_size _ rfl), rfl, rfl⟩ fun b o z => Heap.get?_push_of_some _ (Heap.get?_push_of_some _ z)⟩
end
end FsE
namespace Fs
open PySem PySem.Spec PyProof.Rows L2 FsE
/-- the tuple at a: at each turn a new pair of the number and the item -/
def IteT (K : PySem.W.Frag) (a : Addr) : It :=
  ⟨fun i H => ∃ (xs : List V) (x : V), SqT K H a xs ∧ xs[i]? = some x, fun i H v H' => ∃ T x, v = .ref T ∧ H T = none ∧ H' = upd H T (.tup [.int (i : Nat), x]) ∧ ∀ xs, SqT K H a xs → xs[i]? = some x, fun i H => ∃ xs : List V, SqT K H a xs ∧ xs.length = i⟩
theorem turn_enumT {P : Program} {w : World} {K : PySem.W.Frag} {elts : List Expr} {kk : Nat} {tpos : Pos} (a e it : Addr) (hne : e ≠ it) (hae : a ≠ e) (hai : a ≠ it) :
    Turn P w K (.Tuple elts kk tpos) (IteT K a) [e, it] e (fun i h => (∃ old, IsEnum h e it ((i : Nat) : Int) old) ∧ h.IsTupleIter it a i) where
  mem := by simp
  obj := fun i h st b hb => by
    obtain ⟨⟨old, he⟩, ⟨o, ho, _, hd⟩⟩ := st
    have which : b = e ∨ b = it := by simpa using hb
    rcases which with rfl | rfl
    · exact ⟨_, he, fun v q => nomatch q⟩
    · exact ⟨o, ho, fun v q => by rw [hd] at q; cases q⟩
  keep := fun i h h1 st k => by
    obtain ⟨⟨old, he⟩, hi⟩ := st
    exact ⟨⟨old, k e (by simp) _ he⟩, hi.at fun o q => k it (by simp) o q⟩
  item := by
    intro X hP hw hK hc i pins s σ H E I hf st hg
    subst hP hw hK
    obtain ⟨⟨old, he⟩, hit⟩ := st
    obtain ⟨xs, x, hq, hx⟩ := hg
    obtain ⟨its, rv, tp, _⟩ := I.tuple hq
    obtain ⟨u, hu, ru⟩ := rv.get hx
    have el : e < s.heap.objs.size := Heap.lt_size he
    have il : it < s.heap.objs.size := by obtain ⟨_, q, _⟩ := hit; exact Heap.lt_size q
    have hus : its.toArray[i]? = some u := by simpa using hu
    have isz : i < its.toArray.size := (Array.getElem?_eq_some_iff.mp hus).1
    refine wpAny_pyNext_enum_itemD (Draws.tuple (A := X.A.in1) (show X.A.in1.handled = none from I.ok.hd hc) it a hai its.toArray) he ⟨hit, tp⟩ isz hne (by simp [hne, Ne.symm hae]) fun y h1 tk hy ho st1 hT hsz hk => ?_
    have ey : y = u := Option.some.inj (hy.symm.trans hus)
    subst ey
    refine ⟨_, rfl, wpAny_letOwnedTupleGo_enum (s := { s with heap := h1, toks := tk + 1 }) ho fun h2 he2 sb => ?_⟩
    have hT2 : h2.get? s.heap.objs.size = some { cls := .type "tuple", data := .seq #[.int i tk, y] } := (sb.2 _ (Nat.ne_of_gt el)).trans hT
    have made : ObjOk X.prog X.w (upd H s.heap.objs.size (.tup [.int (i : Nat), x])) h2 s.heap.objs.size (.tup [.int (i : Nat), x]) :=
      ⟨by show 2 ≤ sizeLine; decide, [.int i tk, y], .cons ⟨_, rfl⟩ (.cons ru .nil), ⟨_, hT2, rfl, _, rfl⟩⟩
    have I1 : Inv X pins σ (upd H s.heap.objs.size (.tup [.int (i : Nat), x])) { s with heap := h2, toks := tk + 1 } :=
      I.turnedNew (ch := [e, it]) (fun b ob hb q => (sb.2 b (fun z => hb (by simp [z]))).trans (hk b ob (fun z => hb (by simp [z])) (fun z => hb (by simp [z])) q)) hf (Nat.le_refl _) made
    refine ⟨.ref s.heap.objs.size, _, I1, rfl, ⟨_, x, rfl, I.hok.fresh (Nat.le_refl _), rfl, fun ys hys => by rw [I.tuple_inj hys hq]; exact hx⟩, ⟨⟨y, ?_⟩, st1.1.at fun o q => (sb.2 it (Ne.symm hne)).trans q⟩, fun b hb => ?_⟩
    · rw [show ((i + 1 : Nat) : Int) = (i : Int) + 1 by omega]
      exact he2
    · have below : b < s.heap.objs.size := by
        have which : b = e ∨ b = it := by simpa using hb
        rcases which with rfl | rfl
        · exact el
        · exact il
      rw [upd_ne (Nat.ne_of_lt below)]
      exact (hf b hb).1
  done := by
    intro X hP hw hK hc i pins s σ H E I hf st hg
    subst hP hw hK
    obtain ⟨⟨old, he⟩, hit⟩ := st
    obtain ⟨xs, hq, hx⟩ := hg
    obtain ⟨its, rv, tp, _⟩ := I.tuple hq
    obtain ⟨f0, f1, f2, f3, f4, f5⟩ := hf it (by simp)
    have hl : its.toArray.size = i := by
      have := rv.length
      simp
      omega
    refine wpAny_pyNext_enum_endD (i := (i : Int)) (old := old) (Draws.tuple (A := X.A.in1) (show X.A.in1.handled = none from I.ok.hd hc) it a hai its.toArray) he (by rw [hl]; exact ⟨hit, tp⟩) fun h1 eb => ⟨rfl, I.turned (t' := s.toks) (fun b o hb q => eb b o hb q) f0 f1 f3 f4 f5⟩
  self := fun A i s Q E st h => let ⟨⟨_, he⟩, _⟩ := st; wpAny_pyIter_enum he h
def iEnumT (K : PySem.W.Frag) (ta : TA) : TI := fun σ H R => ta σ H fun vs H1 => ∃ a xs, vs = [.ref a] ∧ SqT K H1 a xs ∧ R (IteT K a) H1
theorem pi_enumT {X : Cx} {e : Expr} {ta : TA} {p pos tpos : Pos} {elts : List Expr} {kk : Nat} (hg : Gl X "enumerate") (hm : X.mg "enumerate" = none) (ha : PA X [e] ta) (hs : starEach [e] X.env = [(false, eval e X.env)] := by rfl) :
    PI X (.Tuple elts kk tpos) (.Call (.Name "enumerate" p) [e] [] pos) (iEnumT X.K ta) := by
  refine ⟨fun pins s σ H R I h => ?_⟩
  refine Call_ (ld_blt I hg hm PyProof.Rows.boot_enumerate (PyProof.Rows.callWith_type1 (thn (ha.run pos pins s σ H _ I h) fun us s1 ⟨vs, H1, I1, r1, got⟩ => ?_) hs rfl))
  obtain ⟨a, xs, ev, hq, q⟩ := got
  subst ev
  cases r1 with
  | cons r rr =>
    cases rr
    cases r
    obtain ⟨its, rv, tp, _⟩ := I1.tuple hq
    have al : a < s1.heap.objs.size := by obtain ⟨o, ho, _⟩ := id tp; exact Heap.lt_size ho
    refine call_enum_tup (show s1.heap.IsTuple a its.toArray from tp) fun h1 he hit hk => wpAny_pyIter_enum he ?_
    have I2 : Inv X pins σ H1 { s1 with heap := h1 } := I1.kept (t' := s1.toks) hk
    refine ⟨s1.heap.objs.size + 1, [s1.heap.objs.size + 1, s1.heap.objs.size], _, _, H1, rfl, I2, turn_enumT a (s1.heap.objs.size + 1) s1.heap.objs.size (Nat.succ_ne_self _) (Nat.ne_of_lt (Nat.lt_succ_of_lt al)) (Nat.ne_of_lt al), ⟨⟨.none, he⟩, hit⟩, fun b hb => ?_, q⟩
    have which : b = s1.heap.objs.size + 1 ∨ b = s1.heap.objs.size := by simpa using hb
    have fresh : s1.heap.objs.size ≤ b := by rcases which with rfl | rfl <;> omega
    exact I1.fpOk fresh (I1.hok.fresh fresh)
/-- a loop over enumerate(tuple) -/
theorem for_enumT {K : PySem.W.Frag} {a : Addr} {xs : List V} {g : TG} {tb : TS} {D : Ends} {σ : L2.St} {H : Hp} (Pv : Nat → L2.St → Hp → Prop) (h0 : Pv 0 σ H) (hq : ∀ i σ H, Pv i σ H → SqT K H a xs)
    (hs : ∀ (i : Nat) (x : V) (T : Addr) (σ : L2.St) (H : Hp), xs[i]? = some x → Pv i σ H → H T = none → g (.ref T) σ (upd H T (.tup [.int (i : Nat), x])) fun σ2 H2 => tb { D with nx := Pv (i + 1), ct := Pv (i + 1), bk := D.nx } σ2 H2) (hd : ∀ σ H, Pv xs.length σ H → D.nx σ H) :
    ∃ W : Nat → Nat → L2.St → Hp → Prop, (∃ m, W 0 m σ H) ∧ ∀ i m σ H, W i m σ H →
      ((IteT K a).stop i H ∧ D.nx σ H) ∨ ((IteT K a).go i H ∧ ∃ N : L2.St → Hp → Prop, (∀ σ' H', N σ' H' → ∃ m', m' < m ∧ W (i + 1) m' σ' H') ∧ ∀ v H', (IteT K a).yld i H v H' → g v σ H' fun σ2 H2 => tb { D with nx := N, ct := N, bk := D.nx } σ2 H2) := by
  refine ⟨fun i m σ H => m = xs.length - i ∧ i ≤ xs.length ∧ Pv i σ H, ⟨xs.length, rfl, Nat.zero_le _, h0⟩, ?_⟩
  rintro i m σ H ⟨rfl, hi, pv⟩
  have sq := hq i σ H pv
  by_cases lt : i < xs.length
  · refine .inr ⟨⟨xs, _, sq, List.getElem?_eq_getElem lt⟩, Pv (i + 1), fun σ' H' p' => ⟨xs.length - (i + 1), by omega, rfl, lt, p'⟩, fun v H' yl => ?_⟩
    obtain ⟨T, x', rfl, hT, rfl, f1⟩ := yl
    exact hs i x' T σ H (f1 xs sq) pv hT
  · have e : i = xs.length := by omega
    subst e
    exact .inl ⟨⟨xs, sq, rfl⟩, hd σ H pv⟩
end Fs

/-! functions as values: lambdas with a parameter and captured names, handed down to other defs and called there -/
namespace Fs
open PySem PySem.Spec PyProof.Rows L2
abbrev Tabz := List (Addr × Str)
abbrev lamF (q : Str) (params : Arguments) (scope : Scope) (cl : List (Str × Addr)) (c' : Addr) : NdefX.NF := ⟨"<lambda>", q, params, [], scope, cl, c'⟩
section
variable {P : Program} {w : World} {K : PySem.W.Frag} {mg : Str → Option Value} {base : Heap}
/-- a lambda's call, by its body -/
theorem lam_run {N ps fr : List Str} {q : Str} {params : Arguments} {body : Expr} {scope : Scope} {cl : List (Str × Addr)} {pm ctv : Value} {f c' : Addr} {k : Nat} {A : Around} {outer : List Env} {s : Shared} {H : Hp} {us : List Value} {vs : List V} {ws : List (Option V)} {Q : VK} {E : XK} {o : Obj}
    (S : NdefX.NScope N ps fr scope) (hb : bindArgs (PySem.W.kla_fn "<lambda>" q params body scope cl pm (.ref c') ctv) ⟨us, []⟩ = pure (ps.zip us)) (hr : Room (k + 1) A) (e0 : Env0 P w K mg base A outer s H)
    (hf : s.heap.get? f = some o) (ho : o.data = .func (PySem.W.kla_fn "<lambda>" q params body scope cl pm (.ref c') ctv)) (hc : H c' = some (LamX.CodeO c' q)) (C : NdefX.CellsAt cl fr ws s.heap H) (r : Vals vs us) (hl : vs.length = ps.length)
    (hbody : Room k (A.deeper (NdefX.envF (lamF q params scope cl c') f s.heap.objs.size)) → ∃ t, PE (NdefX.ncx CX0 P w K mg base N (lamF q params scope cl c') f A outer s H E0).nox body t ∧ t (NdefX.startF N vs ws) H Q) :
    codeAny (model P w) A (.call (.ref f) ⟨us, []⟩) (CR CX0 outer P w H s Q E) s := by
  obtain ⟨⟨oc, vc, tc, hoc, hdc, hvc⟩, _, _⟩ := e0.hok c' _ hc
  have lim : s.heap.NoLimit := e0.mod.nolimit.keeps fun b ob z => (e0.bs b ob z).1
  refine PySem.W.kla_callFunE hr.depth hf ho S.co S.gen rfl ⟨c', oc, vc, tc, rfl, hoc, hdc, hvc⟩ ?_
  rw [hb]
  refine wpAny_pure (wpAny_newFunctionEnv S.nocell (fun ⟨n, _⟩ hy => S.par n (List.of_mem_zip hy).1) (fun h1 hns hsb => ⟨lim.fresh _ hsb, ?_⟩) S.kind)
  show codeAny _ _ (.expr body (NdefX.envF (lamF q params scope cl c') f s.heap.objs.size)) _ _
  have kp : ∀ b ob, s.heap.get? b = some ob → h1.get? b = some ob := fun b ob z => hsb.extBut b ob (Nat.ne_of_lt (Heap.lt_size z)) (Heap.get?_push_of_some _ z)
  obtain ⟨t, ht, hq⟩ := hbody (hr.deeper _)
  have I := NdefX.inv_startN (CX := CX0) (E := E0) (F := lamF q params scope cl c') (f := f) (tk := s.toks + (ps.zip us).length) S hr.hd e0 hl r C hns kp
  refine PySem.W.kla_codeExpr (wpAny_mono (ht.run [] _ _ H Q (I.wish _) hq) (fun v s' got => ?_) fun e s' z => False.elim z)
  obtain ⟨v', H', J, rv, qq⟩ := got
  exact ⟨v', H', J.os, J.bare, J.base, J.hok, rv, qq⟩
theorem un_mono {fs fs' ex : List Addr} {H H' : Hp} {h h' : Heap} (u : Un fs ex H H' h h') (sub : ∀ b ∈ fs, b ∈ fs') : Un fs' ex H H' h h' :=
  ⟨fun b o e n nf nx => u.keep b o e n (fun z => nf (sub b z)) nx, fun b o e n _ nx => u.any e n nx, u.free, u.there, u.tups, u.frzs, u.tbls⟩
/-- the state s with H comes later than s0 with H0 -/
structure Later (s0 : Shared) (H0 : Hp) (s : Shared) (H : Hp) : Prop where
  un : ∃ fs, Un fs [] H0 H s0.heap s.heap
  ext : LamX.ExtN H0 H
theorem Later.trans {s0 s1 s2 : Shared} {H0 H1 H2 : Hp} (a : Later s0 H0 s1 H1) (b : Later s1 H1 s2 H2) : Later s0 H0 s2 H2 := by
  obtain ⟨fs, u⟩ := a.un
  obtain ⟨fs2, u2⟩ := b.un
  exact ⟨⟨fs ++ fs2, (un_mono u fun b hb => List.mem_append_left _ hb).trans (un_mono u2 fun b hb => List.mem_append_right _ hb)⟩, a.ext.trans b.ext⟩
theorem Later.refl (s : Shared) (H : Hp) : Later s H s H := ⟨⟨[], Un.kept fun _ _ z => z⟩, LamX.ExtN.refl H⟩
/-- what stands at f may be called with one value of which pre holds, and then tells g of it; T: the tables of code objects -/
structure CallsB (P : Program) (w : World) (K : PySem.W.Frag) (mg : Str → Option Value) (base : Heap) (k : Nat) (T : Tabz) (s0 : Shared) (H0 : Hp) (f : Addr) (pre : V → Hp → Prop) (g : V → Bool) : Prop where
  fn : ∀ s H, Later s0 H0 s H → PySem.W.FnAt f s.heap
  run : ∀ (A : Around) (outer : List Env) (s : Shared) (H : Hp) (u : Value) (v : V) (Q : VK) (E : XK), Room k A → Env0 P w K mg base A outer s H → Later s0 H0 s H → LamX.Tabs T H → RelV v u → pre v H →
    (∀ H', LamX.ExtN H H' → LamX.Tabs T H' → Q (.bl (g v)) H') → codeAny (model P w) A (.call (.ref f) ⟨[u], []⟩) (CR CX0 outer P w H s Q E) s
theorem CallsB.later {k : Nat} {T : Tabz} {s0 s1 : Shared} {H0 H1 : Hp} {f : Addr} {pre : V → Hp → Prop} {g : V → Bool} (c : CallsB P w K mg base k T s0 H0 f pre g) (l : Later s0 H0 s1 H1) : CallsB P w K mg base k T s1 H1 f pre g :=
  ⟨fun s H l2 => c.fn s H (l.trans l2), fun A outer s H u v Q E hr e0 l2 => c.run A outer s H u v Q E hr e0 (l.trans l2)⟩
/-- a def of the text as such a value -/
theorem calls_def {k : Nat} {T : Tabz} {s0 : Shared} {H0 : Hp} {x : Str} {a : Str} {f : Addr} {fd : FuncData} {sp : Sp} {pre : V → Hp → Prop} {g : V → Bool} (G : Ok P w K mg base CX0 x k [a] sp f fd) (hfn : ∀ h, K.In h → PySem.W.FnAt f h) (hK : ∀ s H, Later s0 H0 s H → K.In s.heap)
    (hsp : ∀ (v : V) (H : Hp) (Q : VK) (E : XK), LamX.Tabs T H → pre v H → (∀ H', LamX.ExtN H H' → LamX.Tabs T H' → Q (.bl (g v)) H') → sp [v] H Q E) : CallsB P w K mg base k T s0 H0 f pre g :=
  ⟨fun s H l => hfn _ (hK s H l), fun A outer s H u v Q E hr e0 l t r p q => (G.ok.raw G.b .nil) A outer s H [u] [v] Q E hr e0 (.cons r .nil) (hsp v H Q E t p q)⟩
end
section
variable {X : Cx} {pins : List (Addr × Obj)} {σ : L2.St} {H : Hp} {s : Shared}
theorem Inv.laterX (I : Inv X pins σ H s) (hx : X.ex = []) (e : LamX.ExtN X.H_0 H) : Later X.s_0 X.H_0 s H := ⟨⟨X.fs, by have u := I.base; rw [hx] at u; exact u⟩, e⟩
/-- a lambda just made as such a value -/
theorem lam_calls {T : Tabz} {N fr : List Str} {a q : Str} {params : Arguments} {body : Expr} {scope : Scope} {cl : List (Str × Addr)} {pm ctv : Value} {f c' : Addr} {k : Nat} {js : List Nat} {t : TE} {pre : V → Hp → Prop} {g : V → Bool} (I : Inv X pins σ H s) (cp : NdefX.Caps X cl fr js)
    (hf : s.heap.get? f = some (PySem.W.kla_obj "<lambda>" q params body scope cl pm c' ctv)) (hfn : H f = none) (hc : H c' = some (LamX.CodeO c' q)) (S : NdefX.NScope N [a] fr scope)
    (hb : ∀ (u pm cv ctv : Value), bindArgs (PySem.W.kla_fn "<lambda>" q params body scope cl pm cv ctv) ⟨[u], []⟩ = pure [(a, u)])
    (hbody : ∀ (A : Around) (outer : List Env) (s : Shared) (H : Hp), Room k (A.deeper (NdefX.envF (lamF q params scope cl c') f s.heap.objs.size)) → PE (NdefX.ncx CX0 X.prog X.w X.K X.mg X.base N (lamF q params scope cl c') f A outer s H E0).nox body t)
    (hq : ∀ (v : V) (H : Hp) (Q : VK), LamX.Tabs T H → pre v H → (∀ H', LamX.ExtN H H' → LamX.Tabs T H' → Q (.bl (g v)) H') → t (NdefX.startF N [v] (js.map (NdefX.slotAt σ))) H Q) :
    CallsB X.prog X.w X.K X.mg X.base (k + 1) T s H f pre g := by
  have C0 := NdefX.cells_of I cp
  have isF : ∀ s1 H1, Later s H s1 H1 → ∃ o : Obj, s1.heap.get? f = some o ∧ o.data = .func (PySem.W.kla_fn "<lambda>" q params body scope cl pm (.ref c') ctv) := fun s1 H1 l => by
    obtain ⟨fs, u⟩ := l.un
    obtain ⟨sl, z⟩ := u.any hf hfn (by simp)
    exact ⟨_, z, rfl⟩
  refine ⟨fun s1 H1 l => ?_, fun A outer s1 H1 u v Q E hr e0 l tb r p qq => ?_⟩
  · obtain ⟨⟨oc, od, dt, sl⟩, z, hd⟩ := isF s1 H1 l
    have hd2 : dt = .func (PySem.W.kla_fn "<lambda>" q params body scope cl pm (.ref c') ctv) := hd
    subst hd2
    exact ⟨oc, od, _, sl, z⟩
  · obtain ⟨o, z, hd⟩ := isF s1 H1 l
    obtain ⟨fs, un⟩ := l.un
    have cellK : ∀ {y : Str} {c : Addr} {x : Option Value}, cl.lookup y = some c → s.heap.IsCell c x → s1.heap.IsCell c x := fun {y c x} e ⟨ob, h1, h2⟩ => by
      obtain ⟨sl, zz⟩ := un.any h1 (C0.all y c e).1 (by simp)
      exact ⟨_, zz, h2⟩
    have C1 : NdefX.CellsAt cl fr (js.map (NdefX.slotAt σ)) s1.heap H1 := by
      refine ⟨C0.len, fun y c e => ?_, C0.inj, fun i y e => ?_⟩
      · obtain ⟨n, x, hx⟩ := C0.all y c e
        refine ⟨?_, x, cellK e hx⟩
        obtain ⟨ob, h1, _⟩ := hx
        exact un.free c ob h1 n (by simp)
      · obtain ⟨c, e2, hv⟩ := C0.has i y e
        refine ⟨c, e2, fun x ex => ?_⟩
        obtain ⟨u2, r2, z2⟩ := hv x ex
        exact ⟨u2, r2, cellK e2 z2⟩
    have hc1 : H1 c' = some (LamX.CodeO c' q) := l.ext _ _ hc LamX.codeO_ne
    exact lam_run (N := N) (ps := [a]) (fr := fr) S (hb u pm (.ref c') ctv) hr e0 z hd hc1 C1 (.cons r .nil) rfl fun hr2 => ⟨t, hbody A outer s1 H1 hr2, hq v H1 Q tb p qq⟩
end
end Fs

/-! calls of what a parameter holds; defs that get a function; a lambda as the last argument -/
namespace Fs
open PySem PySem.Spec PyProof.Rows L2
abbrev SpS := Shared → List V → Hp → VK → Prop
/-- a def whose promise is told of the state at the call; it raises nothing -/
structure OkC (P : Program) (w : World) (K : PySem.W.Frag) (mg : Str → Option Value) (base : Heap) (x : Str) (k : Nat) (sp : SpS) (f : Addr) : Prop where
  run : ∀ (A : Around) (outer : List Env) (s : Shared) (H : Hp) (us : List Value) (vs : List V) (Q : VK), Room k A → Env0 P w K mg base A outer s H → Vals vs us → sp s vs H Q →
    codeAny (model P w) A (.call (.ref f) ⟨us, []⟩) (CR CX0 outer P w H s Q L2.E0) s
  k : PySem.W.keepIn K (.ref f) = true
  g : mg x = some (.ref f)
theorem okC_mk {P : Program} {w : World} {K : PySem.W.Frag} {mg : Str → Option Value} {base : Heap} {x : Str} {st : Stmt} {k : Nat} {N ps : List Str} {sp : SpS} {f : Addr} {fd : FuncData} (D : DefAt K mg x st ps f fd) (S : FnScope N ps (defScope st)) (len : ∀ s vs H Q, sp s vs H Q → vs.length = ps.length)
    (hbody : ∀ (cdv : Value) (A : Around) (outer : List Env) (s : Shared) (H : Hp) (vs : List V) (Q : VK), Room k (A.deeper (envOfC x (defScope st) s.heap.objs.size f cdv)) → sp s vs H Q →
      ∃ t, PSs (cxOf CX0 P w K mg base N x (defScope st) f cdv A outer s H L2.E0).nox (defBody st) t ∧ t { nx := fun _ H' => Q .non H', rt := Q } (start N vs) H) : OkC P w K mg base x (k + 1) sp f := by
  refine ⟨fun A outer s H us vs Q hr e0 r q => ?_, D.F.kp, D.g⟩
  have hl := len _ _ _ _ q
  have KX : K.In s.heap := e0.mod.kin.keeps fun b o e => (e0.bs b o e).1
  have hb : BindsTo s fd ⟨us, []⟩ (ps.zip us) := by
    have z := D.b s us KX (by rw [List.append_nil, ← r.length]; exact hl)
    rw [List.append_nil] at z
    exact z
  obtain ⟨oc, od, kV, doc, pm, an, cdv, ct, osl, rfl, lk, hcd⟩ := D.F.ex
  refine LamX.run_ofS lk hcd S hr e0 hb r hl fun hr2 => ?_
  obtain ⟨t, ht, hq⟩ := hbody cdv A outer s H vs Q hr2 q
  exact ⟨t, ht.nox, hq⟩
section
variable {X : Cx}
/-- x(e), x a parameter that holds what may be called -/
def tCallP (X : Cx) (T : Tabz) (i k : Nat) (t : TA) : TE := fun σ H Q => ∃ (f : Addr) (pre : V → Hp → Prop) (g : V → Bool), σ[i]? = some (some (.ref f)) ∧ CallsB X.prog X.w X.K X.mg X.base k T X.s_0 X.H_0 f pre g ∧ LamX.ExtN X.H_0 H ∧
  t σ H fun vs H1 => ∃ v, vs = [v] ∧ LamX.ExtN X.H_0 H1 ∧ LamX.Tabs T H1 ∧ pre v H1 ∧ ∀ H', LamX.ExtN H1 H' → LamX.Tabs T H' → Q (.bl (g v)) H'
theorem pe_callP {T : Tabz} {i j k : Nat} {x : Str} {e : Expr} {t : TA} {p pos : Pos} (hex : X.ex = []) (hr : Room j X.A) (hk : k ≤ j) (hN : X.N[i]? = some x) (hv : Vis X.env.scope x) (ha : PA X [e] t)
    (hd : (x == ("__debug__" : Str)) = false := by decide) (hcd : (x == ("__classdict__" : Str)) = false := by decide)
    (he : starEach [e] X.env = (false, eval e X.env) :: starEach [] X.env := by rfl) : PE X (.Call (.Name x p) [e] [] pos) (tCallP X T i k t) := by
  refine ⟨fun pins s σ H Q I h => ?_⟩
  obtain ⟨f, pre, g, hs, c, x0, ht⟩ := h
  refine wpAny_Call_Name_kw (thn ((pe_var (pos := p) hN hv hd hcd).run pins s σ H (fun v H1 => v = .ref f ∧ H1 = H) I ⟨.ref f, hs, rfl, rfl⟩) fun u s1 ⟨v, H1, I1, r1, q1⟩ => ?_)
  obtain ⟨ev, eH⟩ := q1
  subst ev
  rw [eH] at I1
  obtain rfl : u = Value.ref f := r1
  refine PySem.W.callWith_F (first := []) (c.fn _ _ (Inv.laterX I1 hex x0)) (thn (ha.run pos pins s1 σ H _ I1 ht) fun us s2 ⟨vs, H2, I2, r, v, ev, x2, tb, hp, q⟩ => ?_) he rfl
  subst ev
  have l2 := Inv.laterX I2 hex x2
  refine ⟨c.fn _ _ l2, ?_⟩
  cases r with
  | cons r0 rn =>
    cases rn
    show wpAny _ _ (call (.ref f) [_]) _ _ _
    refine wpAny_call (codeAny_mono (c.run X.A X.stack s2 H2 _ v Q L2.E0 (hr.mono hk) I2.env0 l2 tb r0 hp q) fun r s' hq => ?_)
    cases r with
    | error e => exact (show False from hq).elim
    | ok fl =>
      cases fl with
      | ret u => exact I2.after hq
      | next => exact False.elim hq
      | brk => exact False.elim hq
      | cont => exact False.elim hq
/-- arguments, their reading told of the state that they end in -/
abbrev TAS := L2.St → Hp → (Shared → List V → Hp → Prop) → Prop
structure PAs (X : Cx) (es : List Expr) (t : TAS) : Prop where
  run : ∀ (pos : Pos) (pins : List (Addr × Obj)) (s : Shared) (σ : L2.St) (H : Hp) (Q : Shared → List V → Hp → Prop), Inv X pins σ H s → t σ H Q →
    wpAny (model X.prog X.w) X.A (spliced (backTo pos (starEach es X.env))) (fun us s' => ∃ vs H', Inv X pins σ H' s' ∧ Vals vs us ∧ Q s' vs H') X.xe s
def tPlainS (X : Cx) (t : TA) : TAS := fun σ H Q => t σ H fun vs H1 => LamX.ExtN X.H_0 H1 ∧ ∀ s1, Later X.s_0 X.H_0 s1 H1 → Q s1 vs H1
theorem pas_of {es : List Expr} {t : TA} (hex : X.ex = []) (ha : PA X es t) : PAs X es (tPlainS X t) :=
  ⟨fun pos pins s σ H Q I h => thn (ha.run pos pins s σ H _ I h) fun us s1 ⟨vs, H1, I1, r, x1, q⟩ => ⟨vs, H1, I1, r, q s1 (Inv.laterX I1 hex x1)⟩⟩
def tConsS (te : TE) (t : TAS) : TAS := fun σ H Q => te σ H fun v H1 => t σ H1 fun s vs H2 => Q s (v :: vs) H2
theorem pas_cons {e : Expr} {es : List Expr} {te : TE} {t : TAS} (ha : PE X e te) (hr : PAs X es t) (hs : starEach (e :: es) X.env = (false, eval e X.env) :: starEach es X.env := by rfl) : PAs X (e :: es) (tConsS te t) := by
  refine ⟨fun pos pins s σ H Q I h => ?_⟩
  rw [hs]
  show wpAny _ _ (spliced ((false, eval e X.env) :: backTo pos (starEach es X.env))) _ _ s
  refine Calls.spliced_cons (thn (ha.run pins s σ H _ I h) fun u s1 ⟨x, H1, I1, r1, q1⟩ => ?_)
  exact thn (hr.run pos pins s1 σ H1 _ I1 q1) fun us s2 ⟨xs, H2, I2, r2, q2⟩ => ⟨x :: xs, H2, I2, .cons r1 r2, q2⟩
/-- a lambda as the last argument; t: its body's reading -/
def tLamS (X : Cx) (T : Tabz) (N : List Str) (js : List Nat) (k : Nat) (t : TE) : TAS := fun σ H Q => LamX.Tabs T H ∧ ∃ (pre : V → Hp → Prop) (g : V → Bool),
  (∀ (v : V) (H1 : Hp) (Q1 : VK), LamX.Tabs T H1 → pre v H1 → (∀ H', LamX.ExtN H1 H' → LamX.Tabs T H' → Q1 (.bl (g v)) H') → t (NdefX.startF N [v] (js.map (NdefX.slotAt σ))) H1 Q1) ∧
  ∀ (s1 : Shared) (f : Addr) (H1 : Hp), LamX.ExtN H H1 → LamX.Tabs T H1 → CallsB X.prog X.w X.K X.mg X.base (k + 1) T s1 H1 f pre g → Q s1 [.ref f] H1
theorem pas_lam {T : Tabz} {N fr : List Str} {a : Str} {js : List Nat} {c P : Addr} {params : Arguments} {body : Expr} {scope : Scope} {lpos : Pos} {k : Nat} {t : TE} (TB : LamX.TabB X.base X.mg c P) (hcode : X.env.code = .ref c)
    (hm : (P, X.env.qual ++ "<lambda>") ∈ T) (hu : ∀ p ∈ T, p.1 = P → p.2 = X.env.qual ++ "<lambda>") (S : NdefX.NScope N [a] fr scope)
    (hfree : ∀ y ∈ scope.names, y.2 = .free → X.env.scope.names.lookup y.1 = some .cell ∨ X.env.scope.names.lookup y.1 = some .free) (hfr : ∀ y ∈ fr, (y, NameKind.free) ∈ scope.names) (hjs : js.map (fun j => X.N[j]?) = fr.map some)
    (hbody : ∀ (q : Str) (cl : List (Str × Addr)) (f c' : Addr) (A : Around) (outer : List Env) (s : Shared) (H : Hp), Room k (A.deeper (NdefX.envF (lamF q params scope cl c') f s.heap.objs.size)) → PE (NdefX.ncx CX0 X.prog X.w X.K X.mg X.base N (lamF q params scope cl c') f A outer s H L2.E0).nox body t)
    (hdef : defaultsOf params X.env = ([], []) := by rfl)
    (hb : ∀ (q : Str) (cl : List (Str × Addr)) (u pm cv ctv : Value), bindArgs (PySem.W.kla_fn "<lambda>" q params body scope cl pm cv ctv) ⟨[u], []⟩ = pure [(a, u)] := by intros; rfl) :
    PAs X [.Lambda params body scope lpos] (tLamS X T N js k t) := by
  refine ⟨fun pos pins s σ H Q I h => ?_⟩
  obtain ⟨hT, pre, g, hq, h⟩ := h
  show wpAny _ _ (spliced ((false, eval (.Lambda params body scope lpos) X.env) :: [])) _ _ s
  have hf2 : ∀ y ∈ scope.names, y.2 = .free → ∃ c, X.env.cells.lookup y.1 = some c := fun y hy e => (hfree y hy e).elim (fun z => I.ok.has _ (.inl z)) fun z => I.ok.has _ (.inr z)
  refine Calls.spliced_cons (LamX.lam_make2 I TB hcode hm hu hT hdef hf2 fun f c' pm ctv H1 s1 I1 eN T1 hfo hfn hfs hc => ?_)
  refine Calls.spliced_nil ⟨[.ref f], H1, I1, .cons rfl .nil, h s1 f H1 eN T1 ?_⟩
  exact lam_calls I1 (NdefX.Caps.made I1.ok hfree hfr hjs) hfo hfn hc S (fun u pm cv ctv => hb _ _ u pm cv ctv) (fun A outer s H hr => hbody _ _ f c' A outer s H hr) hq
def tCallC (sp : SpS) (t : TAS) : TE := fun σ H Q => t σ H fun s1 vs H1 => sp s1 vs H1 Q
/-- g(..), g a def whose promise is told of the state -/
theorem pe_callC {k : Nat} {x : Str} {sp : SpS} {f : Addr} {e : Expr} {es : List Expr} {t : TAS} {p pos : Pos} (G : OkC X.prog X.w X.K X.mg X.base x k sp f) (hr : Room k X.A) (hg : Gl X x) (ha : PAs X (e :: es) t) (hdb : (x == ("__debug__" : Str)) = false := by decide)
    (he : starEach (e :: es) X.env = (false, eval e X.env) :: starEach es X.env := by rfl) (hpl : (backTo pos (starEach es X.env)).any (·.1) = false := by rfl) : PE X (.Call (.Name x p) (e :: es) [] pos) (tCallC sp t) := by
  refine ⟨fun pins s σ H Q I h => ?_⟩
  refine wpAny_Call_Name_kw (ld_glob I hg G.g ?_ hdb)
  refine PySem.W.callWith_K (first := []) (h₀ := X.base) I.ok.mod.kin G.k (thn (ha.run pos pins s σ H _ I h) fun us s1 ⟨vs, H1, I1, r, q⟩ => ⟨I1.kIn, ?_⟩) he hpl
  show wpAny _ _ (call (.ref f) us) _ _ _
  refine wpAny_call (codeAny_mono (G.run X.A X.stack s1 H1 us vs Q hr I1.env0 r q) fun r s' hq => ?_)
  cases r with
  | error e => exact (show False from hq).elim
  | ok fl =>
    cases fl with
    | ret u => exact I1.after hq
    | next => exact False.elim hq
    | brk => exact False.elim hq
    | cont => exact False.elim hq
end
end Fs

/-! rules that the library has not: t[::-1] of a tuple, t * k down to k = 1, len(set(t)) of a tuple of ints -/
namespace Fs
open PySem PySem.Spec PyProof.Rows L2 HT
section
variable {prog : Program} {w : World} {A : Around} {E : Value → Shared → Prop} {s : Shared}
theorem adjust_rev (n : Int) : Builtin.Slice.sliceAdjust none none (-1) n = (n - 1, -1) := by
  unfold Builtin.Slice.sliceAdjust
  have h1 : ((-1 : Int) < 0) := by omega
  simp only [h1, if_true]
theorem places_rev (n : Nat) : Builtin.Slice.slicePlaces ((n : Int) - 1) (-1) (-1) = n := by
  unfold Builtin.Slice.slicePlaces
  have h1 : ¬ ((-1 : Int) > 0) := by omega
  simp only [h1, if_false]
  split
  · rw [show -(-1 : Int) = 1 by rfl, Int.ediv_one]
    omega
  · omega
theorem sliceApplied_rev {sl : Addr} {vl vu vs : Value} {n : Nat} {Q : Int × Int × Nat → Shared → Prop} (hs : s.heap.IsSliceOf sl vl vu vs) (pl : IsPart vl none) (pu : IsPart vu none) (ps : IsPart vs (some (-1)))
    (h : Q ((n : Int) - 1, -1, n) s) : wpAny (model prog w) A (Builtin.Slice.sliceApplied (.ref sl) (pure (n : Int))) Q E s := by
  obtain ⟨os, hos, hcs, hds⟩ := id hs
  unfold Builtin.Slice.sliceApplied Builtin.Slice.sliceFields
  refine wpAny_bind (wpAny_bind (wpAny_field hos hds (x := vl) rfl (wpAny_bind (wpAny_field hos hds (x := vu) rfl (wpAny_bind (wpAny_field hos hds (x := vs) rfl (wpAny_pure ?_)))))))
  refine wpAny_bind (slicePart_ ps ?_)
  show wpAny _ _ (if ((-1 : Int) == 0) = true then _ else _) _ _ s
  rw [if_neg (by decide)]
  refine wpAny_bind (slicePart_ pl (wpAny_bind (slicePart_ pu (wpAny_bind (wpAny_pure ?_)))))
  show wpAny _ _ (match Builtin.Slice.sliceAdjust none none (-1) (n : Int) with | (lo, hi) => pure (lo, (-1 : Int), Builtin.Slice.slicePlaces lo hi (-1))) _ _ s
  rw [adjust_rev]
  show wpAny _ _ (pure ((n : Int) - 1, (-1 : Int), Builtin.Slice.slicePlaces ((n : Int) - 1) (-1) (-1))) _ _ s
  rw [places_rev]
  exact wpAny_pure h
theorem rev_get (xs : List Value) : ∀ m : Nat, m ≤ xs.length → (List.range m).filterMap (fun (k : Nat) => xs.toArray[(((xs.length : Nat) : Int) - 1 + (k : Int) * -1).toNat]?) = xs.reverse.take m
  | 0, _ => rfl
  | m + 1, h => by
    have ih := rev_get xs m (by omega)
    rw [List.range_succ, List.filterMap_append, ih, List.take_add_one]
    congr 1
    have e : (((xs.length : Nat) : Int) - 1 + (m : Int) * -1).toNat = xs.length - 1 - m := by omega
    have e2 : xs.reverse[m]? = xs[xs.length - 1 - m]? := List.getElem?_reverse (by omega)
    simp only [List.filterMap_cons, List.filterMap_nil, e, List.getElem?_toArray, e2]
    cases xs[xs.length - 1 - m]? <;> rfl
theorem getItem_tuple_rev {t sl : Addr} {xs : List Value} {vl vu vs : Value} {Q : Value → Shared → Prop} (ht : IsTup s.heap t xs.toArray) (hs : s.heap.IsSliceOf sl vl vu vs) (pl : IsPart vl none) (pu : IsPart vu none) (ps : IsPart vs (some (-1)))
    (h : Q (.ref s.heap.objs.size) { s with heap := s.heap.push { cls := .type "tuple", data := .seq xs.reverse.toArray } })
    (hsz : xs.length ≤ sizeLine) : wpAny (model prog w) A (getItem (.ref t) (.ref sl)) Q E s := by
  have htake : sizeOk (.seq xs.reverse.toArray) := by
    show xs.reverse.toArray.size ≤ sizeLine
    rw [List.size_toArray, List.length_reverse]
    exact hsz
  obtain ⟨os, hos, hcs, hds⟩ := id hs
  have hTs : s.TypeIs (.ref sl) "slice" := ⟨os, hos, hcs⟩
  unfold getItem
  try with_reducible refine wpAny_holding ?_
  first | refine wpAny_bind (wpAny_pure ?_) | skip
  refine wpAny_bind (wpAny_sequenceKey ht.typeIs (by decide) ?_)
  refine wpAny_bind (wpAny_callSpecial?_slot (name := Str.ofString "__getitem__") ht.typeIs PyProof.Rows.slot_tuple_getitem
    (wpAny_call_entry PyProof.Rows.slot_tuple_getitem ht.typeIs entry_tuple_getitem ?_ (args_tuple_getitem _ _)))
  show wpAny _ _ (Builtin.Tuple.tupleItemsOf (.ref t) >>= _) _ _ s
  refine wpAny_bind (tupleItemsOf_ ht ?_)
  refine wpAny_bind (wpAny_typeOf hTs ?_)
  rw [if_pos (by decide)]
  have hn : xs.toArray.size = xs.length := List.size_toArray
  rw [hn]
  refine wpAny_bind (sliceApplied_rev hs pl pu ps ?_)
  have hno : ¬ (((((xs.length : Nat) : Int) - 1) == 0 && (-1 : Int) == 1 && (xs.length == xs.length)) = true) := by
    rw [Bool.and_eq_true, Bool.and_eq_true]
    rintro ⟨⟨_, z⟩, _⟩
    exact absurd z (by decide)
  show wpAny _ _ (if ((((xs.length : Nat) : Int) - 1) == 0 && (-1 : Int) == 1 && (xs.length == xs.length)) = true then _ else _) _ _ s
  rw [if_neg hno, rev_get xs xs.length (Nat.le_refl _), List.take_of_length_le (by rw [List.length_reverse]; exact Nat.le_refl _)]
  first
    | exact wpAny_bind (m := Builtin.Tuple.tupleExact _) (wpAny_newObj_type (wpAny_pure ⟨_, rfl, wpAny_pure h⟩) htake)
    | exact wpAny_bind (m := Builtin.Tuple.tupleExact _) (wpAny_newObj_type (wpAny_bind (wpAny_pure (wpAny_pure ⟨_, rfl, wpAny_pure h⟩))) htake)
    | exact wpAny_bind (wpAny_bind (m := Builtin.Tuple.tupleExact _) (wpAny_newObj_type (wpAny_pure (wpAny_pure ⟨_, rfl, wpAny_pure h⟩)) htake))
    | exact wpAny_bind (wpAny_bind (m := Builtin.Tuple.tupleExact _) (wpAny_newObj_type (wpAny_pure ⟨_, rfl, wpAny_pure h⟩) htake))
end
section
variable {X : Cx}
def tRevT (K : PySem.W.Frag) (te : TE) : TE := fun σ H Q => te σ H fun x H1 => ∃ a xs, x = .ref a ∧ SqT K H1 a xs ∧ ∀ p, H1 p = none → Q (.ref p) (upd H1 p (.tup xs.reverse))
theorem pe_revT {e : Expr} {te : TE} {k : Nat} {p1 p2 p3 pos : Pos} (he : PE X e te) : PE X (.Subscript e (.Slice none none (some (.UnaryOp .USub (.Constant (.int 1) k p1) p2)) p3) pos) (tRevT X.K te) := by
  refine ⟨fun pins s σ H Q I h => ?_⟩
  refine Subscript_ (thn (he.run pins s σ H _ I h) fun v s1 ⟨x, H1, I1, r1, q1⟩ => ?_)
  obtain ⟨a, xs, ex, hx, q⟩ := q1
  subst ex
  cases r1
  have hst : PO X (some (.UnaryOp .USub (.Constant (.int 1) k p1) p2)) (tPart (tUn (rU fun i => .int (-i)) (tC (.int 1)))) := po_some (pe_un un_neg pe_int)
  refine wpAny_Slice (thn (po_none.run pins s1 σ H1 (fun o H2 => o = none ∧ H2 = H1) I1 ⟨rfl, rfl⟩) fun vl s2 ⟨l, H2, I2, pl, el, e2⟩ => ?_)
  subst el e2
  refine thn (po_none.run pins s2 σ H2 (fun o H3 => o = none ∧ H3 = H2) I2 ⟨rfl, rfl⟩) fun vu s3 ⟨u, H3, I3, pu, eu, e3⟩ => ?_
  subst eu e3
  refine thn (hst.run pins s3 σ H3 (fun o H4 => o = some (-1) ∧ H4 = H3) I3 ⟨1, rfl, -1, rfl, rfl, rfl⟩) fun vs s4 ⟨o, H4, I4, ps, eo, e4⟩ => ?_
  subst eo e4
  have I5 : Inv X pins σ H4 { s4 with heap := s4.heap.push { cls := .type "slice", data := .fields #[vl, vu, vs] } } := I4.kept (t' := s4.toks) fun b ob q => Heap.get?_push_of_some _ q
  obtain ⟨its, r, ht, hz⟩ := I5.tuple hx
  have hlen := r.length
  show wpAny (model X.prog X.w) X.A (subscriptTail e (.Slice none none (some (.UnaryOp .USub (.Constant (.int 1) k p1) p2)) p3) (.ref a) (.ref s4.heap.objs.size)) (EP X pins σ Q) X.xe { s4 with heap := s4.heap.push { cls := .type "slice", data := .fields #[vl, vu, vs] } }
  refine tail_any (ops := [.ref a, .ref s4.heap.objs.size]) ht.typeIs (PyProof.Rows.slot_tuple_getitem.lookup) ?_ (by with_unfolding_all rfl)
  refine getItem_tuple_rev ht (Heap.IsSliceOf.new _ vl vu vs) pl pu ps ?_ (by omega)
  refine ⟨.ref _, _, I5.laid (t' := s4.toks) (o := .tup xs.reverse) (fun b ob q => Heap.get?_push_of_some _ q) (Nat.le_refl _) ?_, rfl, q _ (I5.hok.fresh (Nat.le_refl _))⟩
  exact ⟨by rw [List.length_reverse]; exact hz, _, r.reverse, IsTup.new _ _⟩
/-- len(set(t)) -/
def tLenSetT (K : PySem.W.Frag) (ta : TE) : TE := fun σ H Q => ta σ H fun x H1 => ∃ (l : Addr) (ns ds : List Int), x = .ref l ∧ SqT K H1 l (ns.map V.int) ∧ ns.length ≤ 1000 ∧ ds.Nodup ∧ (∀ k, k ∈ ds ↔ k ∈ ns) ∧ Q (.int (ds.length : Nat)) H1
theorem pe_lenSetT {a : Expr} {ta : TE} {p p2 q pos : Pos} (hg : Gl X "len") (hm : X.mg "len" = none) (hg2 : Gl X "set") (hm2 : X.mg "set" = none) (ha : PE X a ta) (hc : X.calm = true := by rfl)
    (na : starEach [a] X.env = (false, eval a X.env) :: starEach [] X.env := by rfl) : PE X (.Call (.Name "len" p) [.Call (.Name "set" p2) [a] [] q] [] pos) (tLenSetT X.K ta) := by
  refine ⟨fun pins s σ H Q I h => ?_⟩
  refine Call_ (ld_blt I hg hm boot_len ?_)
  refine PyProof.Rows.callWith_builtin1 (PyProof.Rows.args_cons ?_ rfl) rfl rfl
  refine Call_ (ld_blt I hg2 hm2 PyProof.Rows.boot_set ?_)
  refine PyProof.Rows.callWith_type1 (PyProof.Rows.args_cons (thn (ha.run pins s σ H _ I h) fun v s1 ⟨x, H1, I1, r1, q1⟩ => PyProof.Rows.args_nil ?_) na) na rfl
  obtain ⟨l, ns, ds, rfl, hq, hl, hnd, hds, q1⟩ := q1
  cases r1
  obtain ⟨its, r, pt, hz⟩ := I1.tuple hq
  have hi : IntsAre its.toArray.toList ns := ints_of_vals r
  refine call_set_tupI ns (I1.ok.hd hc) (show s1.heap.IsTuple l its.toArray from pt) hi (by unfold scanBound; omega) fun h' tk c R1 hcn hk => ?_
  refine PyProof.Rows.args_nil ?_
  obtain ⟨o, es, ep, t, ho, hex, hd, g, nd, hm3, hb, hf, hn, hr, hl2⟩ := R1
  have I2 : Inv X pins σ H1 { s1 with heap := h', toks := tk } := I1.kept hk
  have hper : ds.Perm (es.toList.map keyOf) := (List.perm_ext_iff_of_nodup hnd nd).mpr fun k => by
    rw [hds k, ← hm3 k, decide_eq_true_eq]
  have hsz : es.size = ds.length := by
    have z := hper.length_eq
    rw [List.length_map, Array.length_toList] at z
    exact z.symm
  have hle : es.size ≤ ns.length := by omega
  exact call_len_set ho hex hd hf (by omega) ⟨.int ds.length, H1, I2.tok _, ⟨_, by rw [hsz]⟩, q1⟩
end
end Fs

/-! t * k, k from 1 on -/
namespace Fs
open PySem PySem.Spec PyProof.Rows L2 HT
theorem tuple_mul1 (l : Addr) (items : Array Value) (n : Nat) (dd : Option Addr) (sl : Array (Option Value)) (u : Tok) :
    Meets (Builtin.«tuple.__mul__» ⟨[.ref l, .int 1 u], []⟩) (fun _ R s => s.heap.get? l = some { cls := .type "tuple", dict := dd, data := .seq items n, slots := sl } ∧ R (.ok (.ret (Value.ref l))) s) :=
  .of_wp fun prog w A R s h => by
    obtain ⟨hp, g, d, tk, os⟩ := s
    obtain ⟨hl, h⟩ := h
    have f1 := AutoSeq1.idx_int
    wp_walk using wpAny_loadPart' hl
    repeat (first
      | (refine wpAny_ite_false (by decide) ?_; wp_walk using wpAny_loadPart' hl)
      | (refine wpAny_ite_true (by simp) ?_; wp_walk using wpAny_loadPart' hl))
    exact ⟨_, rfl, h⟩
def rRepA (K : PySem.W.Frag) : R2 := fun x y H Q => ∃ l k xs, x = .ref l ∧ y = .int k ∧ SqT K H l xs ∧ xs ≠ [] ∧ 1 ≤ k ∧ k ≤ 1000 ∧ xs.length ≤ 1000 ∧ (k = 1 → Q (.ref l) H) ∧ (k ≠ 1 → ∀ p, H p = none → Q (.ref p) (upd H p (.tup (List.replicate k.toNat xs).flatten)))
section
variable {X : Cx}
theorem op_repA : OpR X (binaryOp .Mult) (rRepA X.K) := by
  intro pins s σ H x y v u Q I rx ry h
  obtain ⟨l, k, xs, rfl, rfl, hT, hne, h1, h2, hz, q1, q2⟩ := h
  by_cases e : k = 1
  · subst e
    cases rx
    obtain ⟨t, rfl⟩ := ry
    obtain ⟨its, r, ⟨⟨cls, dd, data, sl⟩, ho, hc, n, hd⟩, hs⟩ := I.tuple hT
    simp only at hc hd
    subst hc hd
    refine wpAny_binaryOp_repeat_ref (T := "tuple") (U := "int") (by decide) ⟨_, ho, rfl⟩ (fun s' => typeIs_int s' 1 t) noFill_tuple_mul F.fills_int_mul F.slot_int_rmul repeat_tuple F.slot_int_index.lookup
      (call_meets F.slot_int_rmul (typeIs_int s 1 t) F.entry_int_rmul (F.args_int_rmul_2 _ _) (int_rmul_tuple 1 t l its.toArray n dd sl)
        ⟨ho, rfl, ⟨_, ho, rfl⟩, call_meets F.slot_tuple_mul ⟨_, ho, rfl⟩ F.entry_tuple_mul (F.args_tuple_mul_2 _ _) (tuple_mul1 l its.toArray n dd sl t) ⟨ho, ?_⟩⟩)
    exact ⟨.ref l, H, I, rfl, q1 rfl⟩
  · exact op_repT pins s σ H _ _ v u Q I rx ry ⟨l, k, xs, rfl, rfl, hT, hne, by omega, h2, hz, q2 e⟩
end
end Fs

/-! defs that make a lambda: their code object is known -/
namespace Fs
open PySem PySem.Spec PyProof.Rows L2
structure CodeAt (K : PySem.W.Frag) (x : Str) (st : Stmt) (f : Addr) (fd : FuncData) (c : Addr) : Prop where
  ex : ∃ (oc : Value) (od : Option Addr) (kV doc pm : Value) (an : Option Addr) (ct : Value) (osl : Array (Option Value)),
    fd = PySem.W.fnOf x x (defArgs st) (defBody st) (defScope st) .none kV doc pm an (.ref c) ct ∧ K.lookup f = some ⟨oc, od, .func fd, osl⟩ ∧ PySem.W.codeIn K (.ref c) x = true
theorem codeAt_mk {K : PySem.W.Frag} {x : Str} {st : Stmt} {f c : Addr} {oc : Value} {od an : Option Addr} {osl : Array (Option Value)} {kV doc pm ct : Value} (l : K.lookup f = some ⟨oc, od, .func (PySem.W.fnOf x x (defArgs st) (defBody st) (defScope st) .none kV doc pm an (.ref c) ct), osl⟩)
    (h : PySem.W.codeIn K (.ref c) x = true) : CodeAt K x st f (PySem.W.fnOf x x (defArgs st) (defBody st) (defScope st) .none kV doc pm an (.ref c) ct) c := ⟨⟨oc, od, kV, doc, pm, an, ct, osl, rfl, l, h⟩⟩
section
variable {P : Program} {w : World} {K : PySem.W.Frag} {mg : Str → Option Value} {base : Heap}
theorem okL {x : Str} {st : Stmt} {f c : Addr} {fd : FuncData} {N ps : List Str} {k : Nat} {sp : Sp} (D : DefAt K mg x st ps f fd) (C : CodeAt K x st f fd c) (S : FnScope N ps (defScope st)) (len : ∀ vs H Q E, sp vs H Q E → vs.length = ps.length)
    (hbody : ∀ (A : Around) (outer : List Env) (s : Shared) (H : Hp) (vs : List V) (Q : VK) (E : XK), Room k (A.deeper (envOfC x (defScope st) s.heap.objs.size f (.ref c))) → sp vs H Q E →
      ∃ t, PSs (cxOf CX0 P w K mg base N x (defScope st) f (.ref c) A outer s H E).nox (defBody st) t ∧ t { nx := fun _ H' => Q .non H', rt := Q } (start N vs) H) : Ok P w K mg base CX0 x (k + 1) ps sp f fd := by
  refine D.mk' ?_
  obtain ⟨oc, od, kV, doc, pm, an, ct, osl, e, lk, hcd⟩ := C.ex
  subst e
  refine fn_of lk hcd S len fun A outer s H vs Q E hr hsp => ?_
  obtain ⟨t, h, q⟩ := hbody A outer s H vs Q E hr hsp
  exact ⟨t, h.nox, q⟩
theorem ps_dead {X : Cx} {st : Stmt} : PS X st (fun _ _ _ => False) := ⟨fun _ _ _ _ _ _ h => h.elim⟩
theorem pss_dead {X : Cx} {st : List Stmt} : PSs X st (fun _ _ _ => False) := ⟨fun _ _ _ _ _ _ h => h.elim⟩
/-- what a lambda of the def x is called -/
abbrev lamQ (x : Str) : Str := x ++ ".<locals>." ++ "<lambda>"
/-- the table of the lambdas that x makes is at P -/
structure LamAt (T : Tabz) (base : Heap) (mg : Str → Option Value) (x : Str) (c P : Addr) : Prop where
  tb : LamX.TabB base mg c P
  m : (P, lamQ x) ∈ T
  u : ∀ p ∈ T, p.1 = P → p.2 = lamQ x
theorem pas_lamB {X : Cx} {T : Tabz} {x : Str} (N fr : List Str) (a : Str) (js : List Nat) (k : Nat) (sc : Scope) {c P : Addr} {params : Arguments} {body : Expr} {scope : Scope} {lpos : Pos} {t : TE} (L : LamAt T X.base X.mg x c P)
    (hbody : ∀ (q : Str) (cl : List (Str × Addr)) (f c' : Addr) (A : Around) (outer : List Env) (s : Shared) (H : Hp), Room k (A.deeper (NdefX.envF (lamF q params scope cl c') f s.heap.objs.size)) → PE (NdefX.ncx CX0 X.prog X.w X.K X.mg X.base N (lamF q params scope cl c') f A outer s H L2.E0).nox body t)
    (hcode : X.env.code = .ref c := by rfl) (hq : X.env.qual = x ++ ".<locals>." := by rfl) (S : NdefX.nscB N [a] fr scope = true := by decide +kernel) (hfree : NdefX.ndefB sc scope fr = true := by decide +kernel) (hsc : X.env.scope = sc := by rfl) (hjs : js.map (fun j => X.N[j]?) = fr.map some := by rfl)
    (hdef : defaultsOf params X.env = ([], []) := by rfl)
    (hb : ∀ (q : Str) (cl : List (Str × Addr)) (u pm cv ctv : Value), bindArgs (PySem.W.kla_fn "<lambda>" q params body scope cl pm cv ctv) ⟨[u], []⟩ = pure [(a, u)] := by intros; rfl) :
    PAs X [.Lambda params body scope lpos] (tLamS X T N js k t) :=
  pas_lam L.tb hcode (by rw [hq]; exact L.m) (by rw [hq]; exact L.u) (NdefX.nscope_by S) (by rw [hsc]; exact NdefX.ndef_free hfree) (NdefX.ndef_fr hfree) hjs hbody hdef hb
/-! ### the fault of a tuple -/
def faultAt (g : V → Bool) : List V → Option Nat
  | [] => none
  | x :: r => if g x then (faultAt g r).map (· + 1) else some 0
theorem faultAt_take {g : V → Bool} {xs : List V} {i : Nat} {x : V} (h : ∀ j y, j < i → xs[j]? = some y → g y = true) (hx : xs[i]? = some x) (hg : g x = false) : faultAt g xs = some i := by
  induction xs generalizing i with
  | nil => simp at hx
  | cons y r ih =>
    cases i with
    | zero =>
      simp at hx
      subst hx
      unfold faultAt
      rw [hg] <;> rfl
    | succ i =>
      have h0 := h 0 y (by omega) rfl
      have e : faultAt g r = some i := ih (fun j z hj hz => h (j + 1) z (by omega) (by simpa using hz)) (by simpa using hx)
      unfold faultAt
      rw [h0, e] <;> rfl
theorem faultAt_none {g : V → Bool} : ∀ {xs : List V}, (∀ y ∈ xs, g y = true) → faultAt g xs = none
  | [], _ => rfl
  | x :: r, h => by
    unfold faultAt
    rw [h x (List.mem_cons_self ..), faultAt_none (fun y hy => h y (List.mem_cons_of_mem _ hy))] <;> rfl
def faultV (lo hi : Int) (g : V → Bool) (xs : List V) : V :=
  if lo ≤ (xs.length : Nat) ∧ ((xs.length : Nat) : Int) ≤ hi then match faultAt g xs with
    | some i => .int (i : Nat)
    | none => .non
  else .int (-1)
/-- the def that looks for the fault of a tuple, and the one that tells whether there is none -/
def spFault (P : Program) (w : World) (K : PySem.W.Frag) (mg : Str → Option Value) (base : Heap) (T : Tabz) (k : Nat) : SpS := fun s vs H Q => ∃ (a f : Addr) (xs : List V) (lo hi : Int) (pre : V → Hp → Prop) (g : V → Bool),
  vs = [.ref a, .int lo, .int hi, .ref f] ∧ H a = some (.tup xs) ∧ xs.length ≤ 1000 ∧ LamX.Tabs T H ∧ CallsB P w K mg base k T s H f pre g ∧ (∀ v ∈ xs, ∀ H', LamX.ExtN H H' → pre v H') ∧ ∀ H', LamX.ExtN H H' → LamX.Tabs T H' → Q (faultV lo hi g xs) H'
def noneV : V → Bool
  | .non => true
  | _ => false
def spFits (P : Program) (w : World) (K : PySem.W.Frag) (mg : Str → Option Value) (base : Heap) (T : Tabz) (k : Nat) : SpS := fun s vs H Q => ∃ (a f : Addr) (xs : List V) (lo hi : Int) (pre : V → Hp → Prop) (g : V → Bool),
  vs = [.ref a, .int lo, .int hi, .ref f] ∧ H a = some (.tup xs) ∧ xs.length ≤ 1000 ∧ LamX.Tabs T H ∧ CallsB P w K mg base k T s H f pre g ∧ (∀ v ∈ xs, ∀ H', LamX.ExtN H H' → pre v H') ∧ ∀ H', LamX.ExtN H H' → LamX.Tabs T H' → Q (.bl (noneV (faultV lo hi g xs))) H'
end
end Fs

/-! forms: the weights of a value, and comprehensions that change nothing -/
namespace Fs
open PySem PySem.Spec PyProof.Rows L2
/-! ### weights -/
/-- the weight of the t-th number in the j-th cell at the point a -/
def W (a : Int) : Nat → Nat → Int
  | 0, t => a ^ t
  | _ + 1, 0 => 0
  | j + 1, t + 1 => a * W a (j + 1) t + W a j t
theorem W_zero {a : Int} : ∀ {j t : Nat}, t < j → W a j t = 0
  | 0, t, h => by omega
  | j + 1, 0, _ => by rw [W]
  | j + 1, t + 1, h => by
    rw [W, W_zero (j := j + 1) (t := t) (by omega), W_zero (j := j) (t := t) (by omega), Int.mul_zero] <;> rfl
def wl (p a : Int) (j n : Nat) : List Int := (List.range n).map fun t => W a j t % p
theorem wl_len {p a : Int} {j n : Nat} : (wl p a j n).length = n := by
  unfold wl
  rw [List.length_map, List.length_range]
theorem wl_get {p a : Int} {j n i : Nat} (h : i < n) : (wl p a j n)[i]? = some (W a j i % p) := by
  unfold wl
  rw [List.getElem?_map, List.getElem?_range h] <;> rfl
theorem wl_succ {p a : Int} {j n : Nat} : wl p a j (n + 1) = wl p a j n ++ [W a j n % p] := by
  unfold wl
  rw [List.range_succ, List.map_append] <;> rfl
theorem mul_mod_l {x y p : Int} : (x % p) * y % p = x * y % p := by rw [Int.mul_emod, Int.emod_emod, ← Int.mul_emod]
theorem W0_next {p a : Int} {t : Nat} : (W a 0 t % p) * a % p = W a 0 (t + 1) % p := by
  rw [mul_mod_l, W, W, Int.pow_succ]
theorem W_next {p a : Int} {j t : Nat} : (a * (W a (j + 1) t % p) + W a j t % p) % p = W a (j + 1) (t + 1) % p := by
  rw [W, Int.add_emod, Int.mul_emod, Int.emod_emod, ← Int.mul_emod, Int.emod_emod, ← Int.add_emod]
/-- the weights that a value is made with -/
def vw (p : Int) (n : Nat) (x : Int) (j : Nat) : List Int := if x = p then (List.range n).map (fun t => if t + j + 1 = n then 1 else 0) else wl p x j n
theorem vw_len {p x : Int} {j n : Nat} : (vw p n x j).length = n := by
  unfold vw
  split
  · rw [List.length_map, List.length_range]
  · exact wl_len
def dotZ : List Int → List Int → Int
  | f :: fs, w :: ws => f * w + dotZ fs ws
  | _, _ => 0
theorem dot_sum : ∀ fs ws : List Int, (List.zipWith (· * ·) fs ws).sum = dotZ fs ws
  | [], _ => by simp [dotZ]
  | _ :: _, [] => by simp [dotZ]
  | f :: fs, w :: ws => by
    rw [List.zipWith_cons_cons, List.sum_cons, dot_sum fs ws] <;> rfl
def valZ (p : Int) (fs : List Int) (x : Int) (j : Nat) : Int := dotZ fs (vw p fs.length x j) % p
theorem valZ_lt {p : Int} {fs : List Int} {x : Int} {j : Nat} (hp : 0 < p) : 0 ≤ valZ p fs x j ∧ valZ p fs x j < p := ⟨Int.emod_nonneg _ (by omega), Int.emod_lt_of_pos _ hp⟩
/-! ### comprehensions over a range that change nothing -/
theorem lc_same {n : Nat} {x : Nat} {te : TE} {vs : List Nat} {σ : L2.St} {H1 : Hp} {D : Addr} {Qd : Hp → Prop} (f : Nat → V) (hn : n ≤ 2000) (hD : H1 D = none) (hw : ∀ v, wipe ((wipe σ vs).set x (some v)) vs = wipe σ vs)
    (hs : ∀ (i : Nat) (H : Hp) (Q : VK), i < n → Same H1 H → (∀ H4, Same H H4 → Q (f i) H4) → te ((wipe σ vs).set x (some (.int (0 + (i : Nat))))) H Q) (hd : ∀ H, Same H1 H → H D = some (.lst ((List.range n).map f)) → Qd H) :
    ∃ W : Nat → Nat → Hp → Prop, (∃ m, W 0 m (upd H1 D (.lst []))) ∧ ∀ i m H, W i m H →
      ((Itr 0 n).stop i H ∧ Qd H) ∨ ((Itr 0 n).go i H ∧ ∃ Nx : Hp → Prop, (∀ H', Nx H' → ∃ m', m' < m ∧ W (i + 1) m' H') ∧ ∀ z H', (Itr 0 n).yld i H z H' → gName x z (wipe σ vs) H' fun σ2 H2 => wipe σ2 vs = wipe σ vs ∧ tYes σ2 H2 fun b H3 =>
        if b = true then te σ2 H3 fun y H4 => ∃ acc, H4 D = some (.lst acc) ∧ acc.length < sizeLine ∧ Nx (upd H4 D (.lst (acc ++ [y]))) else Nx H3) := by
  refine lc_range (lo := 0) (n := n) (g := gName x) (tt := tYes) (fun i H => Same H1 H ∧ H D = some (.lst ((List.range i).map f))) ⟨same_new hD, by rw [upd_same]; rfl⟩ (fun i H hi hp => ?_) (fun H hp => hd H hp.1 hp.2)
  refine ⟨hw _, ?_⟩
  simp only [tYes, if_true]
  refine hs i H _ hi hp.1 fun H4 s4 => ⟨_, s4 _ _ hp.2, ?_, ?_, ?_⟩
  · rw [List.length_map, List.length_range]
    exact small1000' (by omega)
  · intro b o e
    rw [upd_ne (ne_of_none e hD)]
    exact s4 _ _ (hp.1 _ _ e)
  · rw [upd_same, List.range_succ, List.map_append] <;> rfl
where
  small1000' {n : Nat} (h : n ≤ 2000) : n < sizeLine := Nat.lt_of_le_of_lt h (by decide)
/-- over zip of two tuples of one length -/
theorem lc_zipT {K : PySem.W.Frag} {a b : Addr} {xs ys : List V} {g : TG} {tt : TT} {te : TE} {vs : List Nat} {σ : L2.St} {H1 : Hp} {D : Addr} {Qd : Hp → Prop} (hl : xs.length = ys.length) (Pv : Nat → Hp → Prop) (h0 : Pv 0 (upd H1 D (.lst [])))
    (hq : ∀ i H, Pv i H → SqT K H a xs ∧ SqT K H b ys)
    (hs : ∀ i x y T H, xs[i]? = some x → ys[i]? = some y → Pv i H → H T = none → g (.ref T) (wipe σ vs) (upd H T (.tup [x, y])) fun σ2 H2 => wipe σ2 vs = wipe σ vs ∧ tt σ2 H2 fun k H3 =>
      if k = true then te σ2 H3 fun z H4 => ∃ acc, H4 D = some (.lst acc) ∧ acc.length < sizeLine ∧ Pv (i + 1) (upd H4 D (.lst (acc ++ [z]))) else Pv (i + 1) H3) (hd : ∀ H, Pv xs.length H → Qd H) :
    ∃ W : Nat → Nat → Hp → Prop, (∃ m, W 0 m (upd H1 D (.lst []))) ∧ ∀ i m H, W i m H →
      ((RZ.ItzT K a b).stop i H ∧ Qd H) ∨ ((RZ.ItzT K a b).go i H ∧ ∃ Nx : Hp → Prop, (∀ H', Nx H' → ∃ m', m' < m ∧ W (i + 1) m' H') ∧ ∀ x H', (RZ.ItzT K a b).yld i H x H' → g x (wipe σ vs) H' fun σ2 H2 => wipe σ2 vs = wipe σ vs ∧ tt σ2 H2 fun k H3 =>
        if k = true then te σ2 H3 fun z H4 => ∃ acc, H4 D = some (.lst acc) ∧ acc.length < sizeLine ∧ Nx (upd H4 D (.lst (acc ++ [z]))) else Nx H3) := by
  refine ⟨fun i m H => m = xs.length - i ∧ i ≤ xs.length ∧ Pv i H, ⟨xs.length, rfl, Nat.zero_le _, h0⟩, ?_⟩
  rintro i m H ⟨rfl, hi, p⟩
  obtain ⟨qx, qy⟩ := hq i H p
  by_cases hlt : i < xs.length
  · refine .inr ⟨⟨xs, ys, _, _, qx, qy, List.getElem?_eq_getElem hlt, List.getElem?_eq_getElem (show i < ys.length by omega)⟩, Pv (i + 1), fun H' p' => ⟨xs.length - (i + 1), by omega, rfl, hlt, p'⟩, fun v H' y => ?_⟩
    obtain ⟨T, x', y', rfl, hT, rfl, f1, f2⟩ := y
    exact hs i x' y' T H (f1 xs qx) (f2 ys qy) p hT
  · have e : i = xs.length := by omega
    subst e
    exact .inl ⟨⟨xs, ys, qx, qy, .inl (Nat.le_refl _)⟩, hd H p⟩
end Fs
namespace Fs
open PySem PySem.Spec PyProof.Rows L2
theorem cut_init (xs : List V) : cutV xs none (some (-1)) = xs.take (xs.length - 1) := by
  have h1 : HT.sIx xs.length xs.length (some (-1)) = xs.length - 1 := by
    show (if (-1 : Int) < 0 then ((-1 : Int) + (xs.length : Int)).toNat else min (-1 : Int).toNat xs.length) = xs.length - 1
    rw [if_pos (by decide)]
    omega
  unfold cutV
  rw [h1, HT.sIx_none, List.drop_zero, Nat.sub_zero]
theorem wl_one {p a : Int} (h : 2 ≤ p) : wl p a 0 1 = [1] := by
  show [a ^ 0 % p] = [1]
  rw [Int.pow_zero, Int.emod_eq_of_lt (by omega) (by omega)]
theorem wl_one' {p a : Int} {j : Nat} : wl p a (j + 1) 1 = [0] := by
  show [W a (j + 1) 0 % p] = [0]
  rw [W, Int.zero_emod]
theorem wl_zeros {p a : Int} {j n : Nat} (h : n ≤ j) : (wl p a j n).map V.int = (List.replicate n [V.int 0]).flatten := by
  induction n with
  | zero => rfl
  | succ n ih =>
    rw [wl_succ, List.map_append, ih (by omega), W_zero (by omega), Int.zero_emod, List.replicate_succ', List.flatten_append]
    rfl
theorem zw_take {fs ws : List Int} {i : Nat} {x y : Int} (hx : fs[i]? = some x) (hy : ws[i]? = some y) : (List.zipWith (· * ·) fs ws).take (i + 1) = (List.zipWith (· * ·) fs ws).take i ++ [x * y] := by
  rw [List.take_add_one, List.getElem?_zipWith, hx, hy] <;> rfl
end Fs
namespace Fs
open PySem PySem.Spec PyProof.Rows L2
theorem vw_bd {p x : Int} {n j i : Nat} {y : Int} (h : 2 ≤ p) (hy : (vw p n x j)[i]? = some y) : 0 ≤ y ∧ y < p := by
  have hm := List.mem_of_getElem? hy
  unfold vw wl at hm
  split at hm
  · obtain ⟨t, _, rfl⟩ := List.mem_map.mp hm
    split <;> omega
  · obtain ⟨t, _, rfl⟩ := List.mem_map.mp hm
    exact ⟨Int.emod_nonneg _ (by omega), Int.emod_lt_of_pos _ (by omega)⟩
theorem zw_all {fs ws : List Int} (h : fs.length = ws.length) : (List.zipWith (· * ·) fs ws).take fs.length = List.zipWith (· * ·) fs ws := by
  rw [List.take_of_length_le]
  rw [List.length_zipWith]
  omega
end Fs
namespace Fs
open PySem PySem.Spec PyProof.Rows L2
/-! ### readings within a comprehension: the written part is told -/
theorem ix_tupK {X : Cx} (K : PySem.W.Frag) (h : X.K = K := by rfl) : IxR X (rIxT K) := by
  subst h
  exact ix_tup
theorem ix_listK {X : Cx} (K : PySem.W.Frag) (h : X.K = K := by rfl) : IxR X (rIxL K) := by
  subst h
  exact ix_list
end Fs

/-! the law's helpers: comprehensions that draw -/
namespace Fs
open PySem PySem.Spec PyProof.Rows L2
theorem PoolAt.upd {H : Hp} {p l a : Addr} {o : HO} (h : PoolAt H p l) (h1 : a ≠ p) (h2 : a ≠ l) : PoolAt (upd H a o) p l := by
  obtain ⟨n, m, xs, e1, e2, r⟩ := h
  exact ⟨n, m, xs, by rw [upd_ne h1.symm]; exact e1, by rw [upd_ne h2.symm]; exact e2, r⟩
theorem But.new {p l a : Addr} {H H' : Hp} {o : HO} (b : But p l H H') (h : H a = none) : But p l H (upd H' a o) := fun c x h1 h2 e => by
  rw [upd_ne (ne_of_none e h)]
  exact b c x h1 h2 e
theorem But.free {p l c : Addr} {H H' : Hp} (b : But p l H H') (hP : PoolAt H' p l) (h : H' c = none) : H c = none := by
  cases e : H c with
  | none => rfl
  | some o =>
    obtain ⟨h1, h2⟩ := hP.ne h
    rw [b _ _ h1 h2 e] at h
    cases h
theorem lc_pool {n : Nat} {x : Nat} {te : TE} {vs : List Nat} {σ : L2.St} {H1 : Hp} {D p l : Addr} {Qd : Hp → Prop} (Pr : V → Prop) (hn : n ≤ 2000) (hD : H1 D = none) (hP : PoolAt H1 p l) (hw : ∀ v, wipe ((wipe σ vs).set x (some v)) vs = wipe σ vs)
    (hs : ∀ (i : Nat) (H : Hp) (Q : VK), i < n → PoolAt H p l → But p l H1 H → (∀ y H4, Pr y → PoolAt H4 p l → But p l H H4 → Q y H4) → te ((wipe σ vs).set x (some (.int (0 + (i : Nat))))) H Q)
    (hd : ∀ H ys, PoolAt H p l → But p l H1 H → H D = some (.lst ys) → ys.length = n → (∀ y ∈ ys, Pr y) → Qd H) :
    ∃ W : Nat → Nat → Hp → Prop, (∃ m, W 0 m (upd H1 D (.lst []))) ∧ ∀ i m H, W i m H →
      ((Itr 0 n).stop i H ∧ Qd H) ∨ ((Itr 0 n).go i H ∧ ∃ Nx : Hp → Prop, (∀ H', Nx H' → ∃ m', m' < m ∧ W (i + 1) m' H') ∧ ∀ z H', (Itr 0 n).yld i H z H' → gName x z (wipe σ vs) H' fun σ2 H2 => wipe σ2 vs = wipe σ vs ∧ tYes σ2 H2 fun b H3 =>
        if b = true then te σ2 H3 fun y H4 => ∃ acc, H4 D = some (.lst acc) ∧ acc.length < sizeLine ∧ Nx (upd H4 D (.lst (acc ++ [y]))) else Nx H3) := by
  obtain ⟨np, nl⟩ := hP.ne hD
  refine lc_range (lo := 0) (n := n) (g := gName x) (tt := tYes) (fun i H => ∃ ys, PoolAt H p l ∧ But p l H1 H ∧ H D = some (.lst ys) ∧ ys.length = i ∧ ∀ y ∈ ys, Pr y) ⟨[], hP.upd np nl, (But.refl p l H1).new hD, upd_same, rfl, fun y hy => absurd hy (by simp)⟩ (fun i H hi hp => ?_) (fun H hp => ?_)
  · obtain ⟨ys, h1, h2, h3, h4, h5⟩ := hp
    refine ⟨hw _, ?_⟩
    simp only [tYes, if_true]
    refine hs i H _ hi h1 h2 fun y H4 py p4 b4 => ⟨ys, b4 _ _ np nl h3, ?_, ys ++ [y], p4.upd np nl, ?_, upd_same, ?_, ?_⟩
    · exact Nat.lt_of_le_of_lt (show ys.length ≤ 2000 by omega) (by decide)
    · exact (h2.trans b4).new hD
    · rw [List.length_append, h4] <;> rfl
    · intro z hz
      rcases List.mem_append.mp hz with q | q
      · exact h5 z q
      · rw [List.mem_singleton.mp q]
        exact py
  · obtain ⟨ys, h1, h2, h3, h4, h5⟩ := hp
    exact hd H ys h1 h2 h3 h4 h5
theorem seqN {v : Int} {n : Nat} (h0 : 0 ≤ v) (h1 : v < n) : seqIndex? v n = some v.toNat := by
  refine (ixN_seq (n := n) (i := v) (j := v.toNat) ?_).1
  unfold ixN
  rw [if_pos h0, if_pos h1]
theorem ints_of {ys : List V} {Pr : Int → Prop} (h : ∀ y ∈ ys, ∃ i, y = .int i ∧ Pr i) : ∃ ns : List Int, ys = ns.map V.int ∧ ∀ x ∈ ns, Pr x := by
  induction ys with
  | nil => exact ⟨[], rfl, fun x hx => absurd hx (by simp)⟩
  | cons y r ih =>
    obtain ⟨ns, e, f⟩ := ih fun z hz => h z (List.mem_cons_of_mem _ hz)
    obtain ⟨i, ei, pi⟩ := h y (List.mem_cons_self ..)
    refine ⟨i :: ns, by rw [ei, e]; rfl, fun x hx => ?_⟩
    rcases List.mem_cons.mp hx with q | q
    · rw [q]; exact pi
    · exact f x q
/-! ### turned -/
theorem cons_erase : ∀ (ls : List Int) (k : Nat) (h : k < ls.length), (ls[k] :: ls.eraseIdx k).Perm ls
  | [], k, h => absurd h (Nat.not_lt_zero _)
  | a :: r, 0, h => List.Perm.refl _
  | a :: r, k + 1, h => by
    have ih := cons_erase r k (Nat.lt_of_succ_lt_succ h)
    exact (List.Perm.swap a (r[k]'(Nat.lt_of_succ_lt_succ h)) (r.eraseIdx k)).trans (ih.cons a)
theorem map_erase : ∀ (ls : List Int) (k : Nat), (ls.map V.int).eraseIdx k = (ls.eraseIdx k).map V.int
  | [], k => rfl
  | a :: r, 0 => rfl
  | a :: r, k + 1 => by
    show V.int a :: (r.map V.int).eraseIdx k = V.int a :: (r.eraseIdx k).map V.int
    rw [map_erase r k]
theorem turn_perm {ls fs R : List Int} {k : Nat} (hk : k < ls.length) (h : (ls ++ fs).Perm R) : (ls.eraseIdx k ++ (fs ++ [ls[k]])).Perm R := by
  refine List.Perm.trans ?_ h
  rw [← List.append_assoc]
  refine List.Perm.trans List.perm_append_comm ?_
  show (ls[k] :: (ls.eraseIdx k ++ fs)).Perm _
  rw [← List.cons_append]
  exact (cons_erase ls k hk).append_right fs
def ups (n : Nat) : List Int := (List.range n).map fun i => ((i : Nat) : Int)
theorem ups_rg (n : Nat) : rgV 0 (n : Int) = (ups n).map V.int := by
  unfold rgV ups
  rw [List.map_map, show ((n : Int) - 0).toNat = n by omega]
  refine List.map_congr_left fun i _ => ?_
  show V.int (0 + _) = V.int _
  rw [Int.zero_add]
theorem ups_nodup (n : Nat) : (ups n).Nodup := by
  unfold ups
  refine List.Pairwise.map _ (fun a b h => ?_) List.nodup_range
  omega
theorem ups_mem {n : Nat} {x : Int} (h : x ∈ ups n) : 0 ≤ x ∧ x < n := by
  obtain ⟨i, hi, rfl⟩ := List.mem_map.mp h
  have := List.mem_range.mp hi
  omega
theorem ups_len (n : Nat) : (ups n).length = n := by
  unfold ups
  rw [List.length_map, List.length_range]
end Fs

/-! the written-out form; the ground's numbers -/
namespace Fs
open PySem PySem.Spec PyProof.Rows L2
def dW (a : Int) (j : Nat) : List Int → Nat → Int
  | [], _ => 0
  | f :: fs, s => f * W a j s + dW a j fs (s + 1)
theorem dot_dW {p x : Int} {j : Nat} : ∀ (fs : List Int) (s : Nat), dotZ fs ((List.range' s fs.length).map fun t => W x j t % p) % p = dW x j fs s % p
  | [], s => rfl
  | f :: fs, s => by
    have ih := dot_dW (p := p) (x := x) (j := j) fs (s + 1)
    rw [List.length_cons, List.range'_succ, List.map_cons, dotZ, dW, Int.add_emod, ih, Int.mul_emod, Int.emod_emod, ← Int.mul_emod, ← Int.add_emod]
theorem val_dW {p x : Int} {fs : List Int} {j : Nat} (h : x ≠ p) : valZ p fs x j = dW x j fs 0 % p := by
  have e := dot_dW (p := p) (x := x) (j := j) fs 0
  rw [← List.range_eq_range'] at e
  unfold valZ vw wl
  rw [if_neg h]
  exact e
theorem dW_sh0 {a : Int} : ∀ (fs : List Int) (s : Nat), dW a 0 fs (s + 1) = a * dW a 0 fs s
  | [], s => by rw [dW, dW, Int.mul_zero]
  | f :: fs, s => by
    rw [dW, dW, dW_sh0 fs (s + 1), Int.mul_add, W, W, Int.pow_succ, Int.mul_comm (a ^ s) a, Int.mul_left_comm]
theorem dW_sh {a : Int} {j : Nat} : ∀ (fs : List Int) (s : Nat), dW a (j + 1) fs (s + 1) = a * dW a (j + 1) fs s + dW a j fs s
  | [], s => by rw [dW, dW, dW, Int.mul_zero] <;> rfl
  | f :: fs, s => by
    rw [dW, dW, dW, dW_sh fs (s + 1), W, Int.mul_add, Int.mul_add, Int.mul_left_comm]
    omega
theorem dW_cons0 {a f : Int} {fs : List Int} : dW a 0 (f :: fs) 0 = f + a * dW a 0 fs 0 := by
  rw [dW, dW_sh0, W, Int.pow_zero, Int.mul_one]
theorem dW_cons {a f : Int} {j : Nat} {fs : List Int} : dW a (j + 1) (f :: fs) 0 = a * dW a (j + 1) fs 0 + dW a j fs 0 := by
  rw [dW, dW_sh, W, Int.mul_zero, Int.zero_add]
theorem dW_zero {a : Int} {j : Nat} : ∀ (fs : List Int) (s : Nat), s + fs.length ≤ j → dW a j fs s = 0
  | [], s, _ => rfl
  | f :: fs, s, h => by
    rw [List.length_cons] at h
    rw [dW, dW_zero fs (s + 1) (by omega), W_zero (by omega), Int.mul_zero] <;> rfl
/-- the numbers of the form g at the point a -/
def wr (p a : Int) (g : List Int) : List Int := (List.range g.length).map fun j => dW a j g 0 % p
theorem wr_len {p a : Int} {g : List Int} : (wr p a g).length = g.length := by
  unfold wr
  rw [List.length_map, List.length_range]
/-- longer = found + [0] -/
theorem wr_get {p a : Int} {g : List Int} {i : Nat} (h : i ≤ g.length) : (wr p a g ++ [0])[i]? = some (dW a i g 0 % p) := by
  by_cases e : i < g.length
  · rw [List.getElem?_append_left (by rw [wr_len]; exact e)]
    unfold wr
    rw [List.getElem?_map, List.getElem?_range e] <;> rfl
  · have e2 : i = g.length := by omega
    subst e2
    rw [List.getElem?_append_right (by rw [wr_len]; exact Nat.le_refl _), wr_len, Nat.sub_self, dW_zero g 0 (by omega), Int.zero_emod] <;> rfl
/-- the next number, all but the first one's part -/
def nxt (p a : Int) (g : List Int) (i : Nat) : Int := (a * (dW a i g 0 % p) + if i = 0 then 0 else dW a (i - 1) g 0 % p) % p
theorem nxt_first {p a f : Int} {g : List Int} : (nxt p a g 0 + f) % p = dW a 0 (f :: g) 0 % p := by
  unfold nxt
  rw [if_pos rfl, Int.add_zero, dW_cons0, Int.add_emod, Int.emod_emod, Int.mul_emod, Int.emod_emod, ← Int.mul_emod, ← Int.add_emod, Int.add_comm]
theorem nxt_later {p a f : Int} {g : List Int} {i : Nat} : nxt p a g (i + 1) = dW a (i + 1) (f :: g) 0 % p := by
  unfold nxt
  rw [if_neg (Nat.succ_ne_zero i), Nat.add_sub_cancel, dW_cons, Int.add_emod, Int.mul_emod, Int.emod_emod, ← Int.mul_emod, Int.emod_emod, ← Int.add_emod]
theorem wr_next {p a f : Int} {g : List Int} : ((List.range (g.length + 1)).map fun i => nxt p a g i).set 0 ((nxt p a g 0 + f) % p) = wr p a (f :: g) := by
  unfold wr
  rw [List.length_cons, List.range_succ_eq_map, List.map_cons, List.map_cons, List.set_cons_zero, nxt_first, List.map_map, List.map_map]
  congr 1
  exact List.map_congr_left fun i _ => nxt_later
theorem wr_val {p x : Int} {fs : List Int} (h : x ≠ p) : wr p x fs = (List.range fs.length).map fun j => valZ p fs x j := by
  unfold wr
  exact List.map_congr_left fun j _ => (val_dW h).symm
theorem dot_ind : ∀ (fs : List Int) (i : Nat), i < fs.length → dotZ fs ((List.range fs.length).map fun t => if t = i then 1 else 0) = fs.getD i 0
  | [], i, h => absurd h (Nat.not_lt_zero _)
  | f :: fs, 0, h => by
    have z : ∀ (gs : List Int) (n : Nat), dotZ gs ((List.range n).map ((fun t => if t = 0 then (1 : Int) else 0) ∘ Nat.succ)) = 0 := by
      intro gs
      induction gs with
      | nil => intro n; rfl
      | cons g r ih =>
        intro n
        have e : ((List.range n).map ((fun t => if t = 0 then (1 : Int) else 0) ∘ Nat.succ)) = List.replicate n 0 := by
          refine List.eq_replicate_iff.mpr ⟨by rw [List.length_map, List.length_range], fun b hb => ?_⟩
          obtain ⟨t, _, rfl⟩ := List.mem_map.mp hb
          show (if t + 1 = 0 then (1 : Int) else 0) = 0
          exact if_neg (Nat.succ_ne_zero t)
        rw [e]
        have e2 : ∀ (gs : List Int) (n : Nat), dotZ gs (List.replicate n 0) = 0 := by
          intro gs
          induction gs with
          | nil => intro n; cases n <;> rfl
          | cons g r ih =>
            intro n
            cases n with
            | zero => rfl
            | succ n => rw [List.replicate_succ, dotZ, ih n, Int.mul_zero] <;> rfl
        exact e2 _ _
    rw [List.length_cons, List.range_succ_eq_map, List.map_cons, List.map_map, dotZ, z, if_pos rfl, Int.mul_one, Int.add_zero] <;> rfl
  | f :: fs, i + 1, h => by
    have ih := dot_ind fs i (Nat.lt_of_succ_lt_succ h)
    rw [List.length_cons, List.range_succ_eq_map, List.map_cons, List.map_map, dotZ, if_neg (by omega), Int.mul_zero, Int.zero_add]
    have e : (List.range fs.length).map ((fun t => if t = i + 1 then (1 : Int) else 0) ∘ Nat.succ) = (List.range fs.length).map fun t => if t = i then 1 else 0 := by
      refine List.map_congr_left fun t _ => ?_
      show (if t + 1 = i + 1 then (1 : Int) else 0) = _
      simp
    rw [e, ih] <;> rfl
theorem val_inf {p : Int} {fs : List Int} {j : Nat} (h : j < fs.length) : valZ p fs p j = fs.getD (fs.length - 1 - j) 0 % p := by
  unfold valZ vw
  rw [if_pos rfl]
  have e : (List.range fs.length).map (fun t => if t + j + 1 = fs.length then (1 : Int) else 0) = (List.range fs.length).map fun t => if t = fs.length - 1 - j then 1 else 0 := by
    refine List.map_congr_left fun t ht => ?_
    have := List.mem_range.mp ht
    by_cases q : t + j + 1 = fs.length
    · rw [if_pos q, if_pos (by omega)]
    · rw [if_neg q, if_neg (by omega)]
  rw [e, dot_ind fs _ (by omega)]
theorem rev_val {p : Int} {fs : List Int} (h : ∀ x ∈ fs, 0 ≤ x ∧ x < p) : fs.reverse = (List.range fs.length).map fun j => valZ p fs p j := by
  refine List.ext_getElem (by rw [List.length_reverse, List.length_map, List.length_range]) fun i h1 h2 => ?_
  rw [List.length_reverse] at h1
  have hm : fs[fs.length - 1 - i] ∈ fs := List.getElem_mem _
  have := h _ hm
  rw [List.getElem_reverse, List.getElem_map, List.getElem_range, val_inf h1, List.getD_eq_getElem?_getD, List.getElem?_eq_getElem (by omega)]
  exact (Int.emod_eq_of_lt this.1 this.2).symm
/-! ### primes, points -/
def noDivB (n : Int) : Bool := (List.range 256).all fun d => decide ((d : Int) < 2) || decide (n < (d : Int) * d) || decide (n % (d : Int) ≠ 0)
theorem noDiv_by {n : Int} (hn : n < 65536) (h : noDivB n = true) : NoDiv n := fun d d2 dd => by
  have hd := sq_lt dd hn (by omega)
  have hm : d.toNat ∈ List.range 256 := List.mem_range.mpr (by omega)
  have z := List.all_eq_true.mp h _ hm
  have e : ((d.toNat : Nat) : Int) = d := by omega
  rw [e] at z
  simp only [Bool.or_eq_true, decide_eq_true_eq] at z
  rcases z with (z | z) | z
  · omega
  · omega
  · exact z
def lawPrimes : List Int := [2, 3, 5, 7, 2, 3, 5, 7, 11, 13, 32749, 65521]
theorem law_prime {q : Int} (h : q ∈ lawPrimes) : PrimeV (.int q) := by
  have a : lawPrimes.all (fun q => decide (2 ≤ q) && decide (q ≤ 65521) && noDivB q) = true := by decide +kernel
  have z := List.all_eq_true.mp a q h
  simp only [Bool.and_eq_true, decide_eq_true_eq] at z
  exact ⟨z.1.1, z.1.2, noDiv_by (by omega) z.2⟩
def gaps (p b g : Int) (n : Nat) : List Int := (List.range n).map fun i => (b + ((i : Nat) : Int) * g) % (p + 1)
theorem gap_inj {p b g : Int} {i j : Nat} (hp : 0 ≤ p) (hg : 1 ≤ g) (hg2 : g * 8 ≤ p + 1) (hi : i < 8) (hj : j < 8) (e : (b + (i : Int) * g) % (p + 1) = (b + (j : Int) * g) % (p + 1)) : i = j := by
  have d : (p + 1) ∣ (b + (i : Int) * g) - (b + (j : Int) * g) := Int.dvd_of_emod_eq_zero (by rw [Int.sub_emod, e, Int.sub_self, Int.zero_emod])
  have e2 : (b + (i : Int) * g) - (b + (j : Int) * g) = ((i : Int) - j) * g := by rw [Int.sub_mul]; omega
  rw [e2] at d
  have ab : ((i : Int) - j).natAbs ≤ 7 := by omega
  have q : ((i : Int) - j) * g = 0 := by
    refine Int.eq_zero_of_dvd_of_natAbs_lt_natAbs d ?_
    rw [Int.natAbs_mul]
    have : ((i : Int) - j).natAbs * g.natAbs ≤ 7 * g.natAbs := Nat.mul_le_mul_right _ ab
    omega
  rcases Int.mul_eq_zero.mp q with z | z <;> omega
theorem gaps_nodup {p b g : Int} {n : Nat} (hp : 0 ≤ p) (hg : 1 ≤ g) (hg2 : g * 8 ≤ p + 1) (hn : n ≤ 8) : (gaps p b g n).Nodup := by
  unfold gaps
  refine List.pairwise_map.mpr ?_
  refine List.Pairwise.imp_of_mem (fun {a c} ha hc h => ?_) (List.nodup_range (n := n))
  have h1 := List.mem_range.mp ha
  have h2 := List.mem_range.mp hc
  exact fun e => h (gap_inj hp hg hg2 (by omega) (by omega) e)
theorem gaps_mem {p b g x : Int} {n : Nat} (hp : 0 ≤ p) (h : x ∈ gaps p b g n) : 0 ≤ x ∧ x ≤ p := by
  obtain ⟨i, _, rfl⟩ := List.mem_map.mp h
  have h1 := Int.emod_nonneg (b + ((i : Nat) : Int) * g) (show p + 1 ≠ 0 by omega)
  have h2 := Int.emod_lt_of_pos (b + ((i : Nat) : Int) * g) (show 0 < p + 1 by omega)
  omega
theorem set_nodup : ∀ {xs : List Int} {i : Nat} {q : Int}, xs.Nodup → q ∉ xs → (xs.set i q).Nodup
  | [], _, _, h, _ => h
  | x :: r, 0, q, h, hq => by
    rw [List.set_cons_zero]
    rw [List.nodup_cons] at h ⊢
    exact ⟨fun z => hq (List.mem_cons_of_mem _ z), h.2⟩
  | x :: r, i + 1, q, h, hq => by
    rw [List.set_cons_succ]
    rw [List.nodup_cons] at h ⊢
    refine ⟨fun z => ?_, set_nodup h.2 fun z => hq (List.mem_cons_of_mem _ z)⟩
    rcases List.mem_or_eq_of_mem_set z with z | z
    · exact h.1 z
    · exact hq (by rw [z]; exact List.mem_cons_self ..)
end Fs
namespace Fs
open PySem PySem.Spec PyProof.Rows L2
theorem cut_take (xs : List V) {k : Int} (h : 0 ≤ k) : cutV xs none (some k) = xs.take k.toNat := by
  have h1 : HT.sIx xs.length xs.length (some k) = min k.toNat xs.length := by
    show (if k < 0 then _ else min k.toNat xs.length) = _
    rw [if_neg (by omega)]
  unfold cutV
  rw [h1, HT.sIx_none, List.drop_zero, Nat.sub_zero, ← List.take_take, List.take_length]
theorem flat_ints (xs : List Int) : (xs.map V.int).all flatV = true := by
  rw [List.all_map]
  exact List.all_eq_true.mpr fun _ _ => rfl
end Fs
namespace Fs
open PySem PySem.Spec PyProof.Rows L2
theorem inV_ints {z : Int} {pts : List Int} : inV (V.int z) (pts.map V.int) = decide (z ∈ pts) := by
  unfold inV
  rw [List.any_map]
  rw [Bool.eq_iff_iff, List.any_eq_true, decide_eq_true_eq]
  constructor
  · rintro ⟨x, hx, e⟩
    have e2 : x = z := by simpa [eqV] using e
    rw [← e2]
    exact hx
  · intro h
    exact ⟨z, h, by simp [eqV]⟩
end Fs

/-! the end of a law whose defs make lambdas -/
namespace Fs
open PySem PySem.Spec PyProof.Rows L2
theorem TabS.but {H H' : Hp} {P p l : Addr} {q : Str} (t : LamX.TabS H P q) (hP : PoolAt H p l) (b : But p l H H') : LamX.TabS H' P q := by
  obtain ⟨ps, h1, h2, h3⟩ := t
  obtain ⟨u1, u2, u3, e1, e2, _⟩ := hP
  have nt : ∀ c o, H c = some o → (∀ xs, o ≠ .lst xs) → H' c = some o := fun c o e n => b c o (fun z => by rw [z, e1] at e; exact n _ (Option.some.inj e).symm) (fun z => by rw [z, e2] at e; exact n _ (Option.some.inj e).symm) e
  refine ⟨ps, nt _ _ h1 (fun _ z => by cases z), h2, fun pos cv hc => ?_⟩
  obtain ⟨c, e, f⟩ := h3 pos cv hc
  exact ⟨c, e, nt _ _ f (fun xs z => by unfold LamX.CodeO at z; cases z)⟩
theorem Tabs.but {T : Tabz} {H H' : Hp} {p l : Addr} (t : LamX.Tabs T H) (hP : PoolAt H p l) (b : But p l H H') : LamX.Tabs T H' := fun q hq => TabS.but (t q hq) hP b
def spLawT (K : PySem.W.Frag) (TZ : Tabz) : Sp := fun vs H Q _ => ∃ (a : Addr) (ns : List Int), vs = [.ref a] ∧ SqL K H a (ns.map V.int) ∧ ns.length ≤ 63 ∧ LamX.Tabs TZ H ∧ ∀ H', Q (.bl true) H'
theorem law_at {l : PySem.W.OpenLaw} {w : World} {K : PySem.W.Frag} {k : Nat} {mg : Str → Option Value} {fa : Addr} {h : Heap} {ts : List Addr} {fd : FuncData} (cs : List (Addr × Addr)) (qs : List Str) (KX : K.In h) (hT : ∀ P ∈ ts, h.get? P = some (PySem.W.tabObj #[])) (m : (cs.all fun p => ts.contains p.2) = true)
    (n : (cs.all fun p => (K.lookup p.2).isNone) = true) (c : (cs.all fun p => PySem.W.codeHdIn K p.1 p.2) = true) (b : ∀ (s : Shared) (v : Value), BindsTo s fd ⟨[v], []⟩ [("script", v)])
    (F : ∀ base : Heap, K.In base → base.Ns mainGlobals mg → (∀ p ∈ cs, LamX.TabB base mg p.1 p.2) → FnOk l.prog w K mg base CX0 k fa fd ["script"] (spLawT K ((cs.map (·.2)).zip qs))) : LamX.LawAtS l w K CX0 k 63 "script" mg fa h := by
  refine ⟨fd, cs, _, fun p hp => hT _ ?_, fun p hp => ?_, fun p hp => PySem.W.codeHd_of_K KX (List.all_eq_true.mp c p hp), b, fun H a ns hl _ hH hS => ⟨a, ns, rfl, hS, hl, fun q hq => ?_, fun _ => rfl⟩, F⟩
  · have z := List.all_eq_true.mp m p hp
    simpa using z
  · have z := List.all_eq_true.mp n p hp
    cases e : K.lookup p.2 with
    | none => rfl
    | some o => rw [e] at z; cases z
  · obtain ⟨p, hp, e⟩ := List.mem_map.mp (List.of_mem_zip (show (q.1, q.2) ∈ _ from hq)).1
    exact LamX.TabS.nil (by rw [← e]; exact hH p hp)
theorem zip_u : ∀ {Ps : List Addr} {qs : List Str} {P : Addr} {q : Str}, Ps.Nodup → (P, q) ∈ Ps.zip qs → ∀ p ∈ Ps.zip qs, p.1 = P → p.2 = q
  | [], _, _, _, _, hm, _, _, _ => absurd hm (by simp)
  | _ :: _, [], _, _, _, hm, _, _, _ => absurd hm (by simp)
  | a :: r, b :: s, P, q, nd, hm, p, hp, e => by
    rw [List.zip_cons_cons] at hm hp
    have nd2 := List.nodup_cons.mp nd
    rcases List.mem_cons.mp hm with h | h
    · cases h
      rcases List.mem_cons.mp hp with h2 | h2
      · rw [h2]
      · exact absurd (by rw [← e]; exact (List.of_mem_zip (show (p.1, p.2) ∈ _ from h2)).1) nd2.1
    · rcases List.mem_cons.mp hp with h2 | h2
      · rw [h2] at e
        exact absurd (by rw [show a = P from e]; exact (List.of_mem_zip h).1) nd2.1
      · exact zip_u nd2.2 h p h2 e
end Fs

/-! batches scaled and added -/
namespace Fs
open PySem PySem.Spec PyProof.Rows L2
/-! ### added -/
def addL (p w : Int) (xs ys : List Int) : List Int := (List.range xs.length).map fun t => (xs.getD t 0 + w * ys.getD t 0) % p
theorem addL_len {p w : Int} {xs ys : List Int} : (addL p w xs ys).length = xs.length := by
  unfold addL
  rw [List.length_map, List.length_range]
theorem addL_cons {p w x y : Int} {xs ys : List Int} : addL p w (x :: xs) (y :: ys) = (x + w * y) % p :: addL p w xs ys := by
  unfold addL
  rw [List.length_cons, List.range_succ_eq_map, List.map_cons, List.map_map]
  rfl
theorem dot_add {p w : Int} : ∀ (xs ys ws : List Int), xs.length = ys.length → dotZ (addL p w xs ys) ws % p = (dotZ xs ws + w * dotZ ys ws) % p
  | [], [], ws, _ => by
    cases ws <;> simp [addL, dotZ]
  | [], _ :: _, _, h => by simp at h
  | _ :: _, [], _, h => by simp at h
  | x :: xs, y :: ys, [], h => by simp [addL_cons, dotZ]
  | x :: xs, y :: ys, c :: ws, h => by
    have ih := dot_add (p := p) (w := w) xs ys ws (by simpa using h)
    rw [addL_cons, dotZ, dotZ, dotZ, Int.add_emod, ih, mul_mod_l, ← Int.add_emod]
    congr 1
    rw [Int.add_mul, Int.mul_add, Int.mul_assoc]
    omega
theorem val_add {p w x : Int} {xs ys : List Int} {j : Nat} (h : xs.length = ys.length) : valZ p (addL p w xs ys) x j = (valZ p xs x j + w * valZ p ys x j) % p := by
  unfold valZ
  rw [addL_len, dot_add xs ys _ h, h]
  conv => rhs; rw [Int.add_emod, Int.mul_emod, Int.emod_emod, Int.emod_emod, ← Int.mul_emod, ← Int.add_emod]
/-! ### scaled -/
theorem W_scale {c a : Int} : ∀ (j t : Nat), W (c * a) j t * c ^ j = c ^ t * W a j t
  | 0, t => by rw [W, W, Int.pow_zero, Int.mul_one, Int.mul_pow]
  | j + 1, 0 => by rw [W, W, Int.zero_mul, Int.mul_zero]
  | j + 1, t + 1 => by
    have h1 := W_scale (c := c) (a := a) (j + 1) t
    have h2 := W_scale (c := c) (a := a) j t
    have e1 : c * a * W (c * a) (j + 1) t * c ^ (j + 1) = c * a * (W (c * a) (j + 1) t * c ^ (j + 1)) := by rw [Int.mul_assoc]
    have e2 : W (c * a) j t * c ^ (j + 1) = W (c * a) j t * c ^ j * c := by rw [Int.pow_succ, Int.mul_assoc]
    rw [W, W, Int.add_mul, e1, h1, e2, h2, Int.pow_succ, Int.mul_add]
    congr 1
    · rw [Int.mul_comm c a, Int.mul_assoc, Int.mul_left_comm c (c ^ t), Int.mul_left_comm a, Int.mul_left_comm a c, ← Int.mul_assoc (c ^ t) c]
    · rw [Int.mul_assoc, Int.mul_assoc, Int.mul_comm c]
theorem W_mod {p y : Int} : ∀ (j t : Nat), W (y % p) j t % p = W y j t % p
  | 0, t => by
    rw [W, W]
    induction t with
    | zero => rw [Int.pow_zero, Int.pow_zero]
    | succ t ih => rw [Int.pow_succ, Int.pow_succ, Int.mul_emod, ih, Int.emod_emod, ← Int.mul_emod]
  | j + 1, 0 => rfl
  | j + 1, t + 1 => by
    have h1 := W_mod (p := p) (y := y) (j + 1) t
    have h2 := W_mod (p := p) (y := y) j t
    rw [W, W, Int.add_emod, Int.mul_emod, h1, h2, Int.emod_emod, ← Int.mul_emod, ← Int.add_emod]
theorem dW_mod {p y : Int} {j : Nat} : ∀ (fs : List Int) (s : Nat), dW (y % p) j fs s % p = dW y j fs s % p
  | [], _ => rfl
  | f :: fs, s => by
    rw [dW, dW, Int.add_emod, dW_mod fs (s + 1), Int.mul_emod, W_mod, ← Int.mul_emod, ← Int.add_emod]
def scL (p c : Int) (fs : List Int) (s : Nat) : List Int := (List.range fs.length).map fun t => (fs.getD t 0 * (c ^ (s + t) % p)) % p
theorem scL_len {p c : Int} {fs : List Int} {s : Nat} : (scL p c fs s).length = fs.length := by
  unfold scL
  rw [List.length_map, List.length_range]
theorem scL_cons {p c f : Int} {fs : List Int} {s : Nat} : scL p c (f :: fs) s = (f * (c ^ s % p)) % p :: scL p c fs (s + 1) := by
  unfold scL
  rw [List.length_cons, List.range_succ_eq_map, List.map_cons, List.map_map]
  congr 1
  refine List.map_congr_left fun t _ => ?_
  show ((f :: fs).getD (t + 1) 0 * (c ^ (s + (t + 1)) % p)) % p = (fs.getD t 0 * (c ^ (s + 1 + t) % p)) % p
  rw [show s + (t + 1) = s + 1 + t by omega]
  rfl
theorem mul_mod_r {x y p : Int} : x * (y % p) % p = x * y % p := by rw [Int.mul_emod, Int.emod_emod, ← Int.mul_emod]
theorem dW_scale {p c a : Int} {j : Nat} : ∀ (fs : List Int) (s : Nat), dW a j (scL p c fs s) s % p = (dW (c * a) j fs s * c ^ j) % p
  | [], s => by simp [scL, dW]
  | f :: fs, s => by
    have ih := dW_scale (p := p) (c := c) (a := a) (j := j) fs (s + 1)
    have e1 : f * (c ^ s % p) % p * W a j s % p = f * W (c * a) j s * c ^ j % p := by
      rw [mul_mod_l, Int.mul_assoc, Int.mul_left_comm, mul_mod_l, Int.mul_assoc f, W_scale, Int.mul_left_comm]
    rw [scL_cons, dW, dW, Int.add_emod, ih, e1, ← Int.add_emod, Int.add_mul]
theorem val_scale {p c x : Int} {fs : List Int} {j : Nat} (hx : x ≠ p) (hp : 0 < p) : valZ p (scL p c fs 0) x j = (valZ p fs (c * x % p) j * (c ^ j % p)) % p := by
  have h1 : c * x % p ≠ p := by
    have := Int.emod_lt_of_pos (c * x) hp
    omega
  rw [val_dW hx, val_dW h1, dW_scale, dW_mod, mul_mod_r, mul_mod_l]
theorem val_scale_inf {p c : Int} {fs : List Int} {j : Nat} (h : j < fs.length) : valZ p (scL p c fs 0) p j = (valZ p fs p j * (c ^ (fs.length - 1 - j) % p)) % p := by
  rw [val_inf (by rw [scL_len]; exact h), val_inf h, scL_len, mul_mod_r, mul_mod_l]
  have e : (scL p c fs 0).getD (fs.length - 1 - j) 0 = (fs.getD (fs.length - 1 - j) 0 * (c ^ (fs.length - 1 - j) % p)) % p := by
    unfold scL
    rw [List.getD_eq_getElem?_getD, List.getElem?_map, List.getElem?_range (by omega)]
    show (fs.getD (fs.length - 1 - j) 0 * (c ^ (0 + (fs.length - 1 - j)) % p)) % p = _
    rw [Nat.zero_add]
  rw [e, Int.emod_emod, mul_mod_r]
end Fs
namespace Fs
open PySem PySem.Spec PyProof.Rows L2
theorem PoolAt.tup_ne {H : Hp} {p l a : Addr} {xs : List V} (h : PoolAt H p l) (e : H a = some (.tup xs)) : a ≠ p ∧ a ≠ l := by
  obtain ⟨n, m, us, e1, e2, _⟩ := h
  refine ⟨fun z => ?_, fun z => ?_⟩
  · rw [z, e1] at e
    cases e
  · rw [z, e2] at e
    cases e
theorem eqv_ints : ∀ xs : List Int, PyData.eqvAll (xs.map PyData.int) (xs.map PyData.int) = true
  | [] => by simp [PyData.eqvAll]
  | x :: r => by
    have h := eqv_ints r
    simp [PyData.eqvAll, PyData.eqv, h]
theorem neq_ints (xs : List Int) : (!PyData.eqv (.tuple (xs.map PyData.int)) (.tuple (xs.map PyData.int))) = false := by
  have h : PyData.eqv (.tuple (xs.map PyData.int)) (.tuple (xs.map PyData.int)) = true := by
    rw [PyData.eqv]
    exact eqv_ints xs
  rw [h]
  rfl
theorem at_getD {xs : List Int} {i : Nat} (h : i < xs.length) : (xs.map V.int)[i]? = some (V.int (xs.getD i 0)) := by
  rw [List.getElem?_map, List.getD_eq_getElem?_getD, List.getElem?_eq_getElem h]
  rfl
end Fs

/-! points shifted and turned -/
namespace Fs
open PySem PySem.Spec PyProof.Rows L2
def hw (s : Int) (fs : List Int) : List Int := (List.range fs.length).map fun j => dW s j fs 0
theorem hw_len {s : Int} {fs : List Int} : (hw s fs).length = fs.length := by
  unfold hw
  rw [List.length_map, List.length_range]
theorem hw_get {s : Int} {g : List Int} {i : Nat} (h : i ≤ g.length) : (hw s g ++ [0])[i]? = some (dW s i g 0) := by
  by_cases e : i < g.length
  · rw [List.getElem?_append_left (by rw [hw_len]; exact e)]
    unfold hw
    rw [List.getElem?_map, List.getElem?_range e] <;> rfl
  · have e2 : i = g.length := by omega
    subst e2
    rw [List.getElem?_append_right (by rw [hw_len]; exact Nat.le_refl _), hw_len, Nat.sub_self, dW_zero g 0 (by omega)] <;> rfl
theorem hw_cons {s f : Int} {g : List Int} : hw s (f :: g) = List.zipWith (fun a b => s * a + b) (hw s g ++ [0]) (f :: hw s g) := by
  refine List.ext_getElem? fun i => ?_
  rw [List.getElem?_zipWith]
  by_cases h : i ≤ g.length
  · rw [hw_get h]
    unfold hw
    rw [List.getElem?_map, List.length_cons, List.getElem?_range (by omega)]
    cases i with
    | zero =>
      show some (dW s 0 (f :: g) 0) = some (s * dW s 0 g 0 + f)
      rw [dW_cons0, Int.add_comm]
    | succ i =>
      rw [List.getElem?_cons_succ, List.getElem?_map, List.getElem?_range (by omega)]
      show some (dW s (i + 1) (f :: g) 0) = some (s * dW s (i + 1) g 0 + dW s i g 0)
      rw [dW_cons]
  · rw [List.getElem?_eq_none (by rw [hw_len, List.length_cons]; omega), List.getElem?_eq_none (by rw [List.length_append, hw_len]; show g.length + 1 ≤ i; omega)]
theorem dW_zip {x s : Int} {j : Nat} : ∀ (as bs : List Int) (t : Nat), as.length = bs.length → dW x j (List.zipWith (fun a b => s * a + b) as bs) t = s * dW x j as t + dW x j bs t
  | [], [], t, _ => by simp [dW]
  | [], _ :: _, _, h => by simp at h
  | _ :: _, [], _, h => by simp at h
  | a :: as, b :: bs, t, h => by
    rw [List.zipWith_cons_cons, dW, dW, dW, dW_zip as bs (t + 1) (by simpa using h), Int.add_mul, Int.mul_add, Int.mul_assoc]
    omega
theorem dW_app0 {x : Int} {j : Nat} : ∀ (as : List Int) (t : Nat), dW x j (as ++ [0]) t = dW x j as t
  | [], t => by simp [dW]
  | a :: as, t => by rw [List.cons_append, dW, dW, dW_app0 as (t + 1)]
theorem dW_comp {x s : Int} : ∀ (fs : List Int) (j : Nat), dW x j (hw s fs) 0 = dW (x + s) j fs 0
  | [], j => rfl
  | f :: g, j => by
    rw [hw_cons, dW_zip _ _ 0 (by rw [List.length_append, List.length_cons]; rfl), dW_app0]
    cases j with
    | zero =>
      rw [dW_cons0, dW_cons0, dW_comp g 0, Int.add_mul]
      omega
    | succ j =>
      rw [dW_cons, dW_cons, dW_comp g (j + 1), dW_comp g j, Int.add_mul]
      omega
theorem dW_map {p x : Int} {j : Nat} : ∀ (fs : List Int) (t : Nat), dW x j (fs.map (· % p)) t % p = dW x j fs t % p
  | [], t => rfl
  | f :: fs, t => by rw [List.map_cons, dW, dW, Int.add_emod, dW_map fs (t + 1), mul_mod_l, ← Int.add_emod]
theorem wr_hw {p s : Int} {fs : List Int} : wr p s fs = (hw s fs).map (· % p) := by
  unfold wr hw
  rw [List.map_map]
  rfl
theorem val_comp {p x s : Int} {fs : List Int} {j : Nat} (hp : 0 < p) (hx : x ≠ p) : valZ p (wr p s fs) x j = valZ p fs ((x + s) % p) j := by
  have h1 : (x + s) % p ≠ p := by
    have := Int.emod_lt_of_pos (x + s) hp
    omega
  rw [val_dW hx, val_dW h1, wr_hw, dW_map, dW_comp, dW_mod]
theorem W_at0 : ∀ (j t : Nat), W 0 j t = if t = j then 1 else 0
  | 0, 0 => rfl
  | 0, t + 1 => by rw [W, Int.pow_succ, Int.mul_zero, if_neg (Nat.succ_ne_zero t)]
  | j + 1, 0 => by rw [W, if_neg (by omega)]
  | j + 1, t + 1 => by
    rw [W, Int.zero_mul, Int.zero_add, W_at0 j t]
    simp
theorem dW_at0 {j : Nat} : ∀ (fs : List Int) (s : Nat), s ≤ j → dW 0 j fs s = fs.getD (j - s) 0
  | [], s, _ => rfl
  | f :: fs, s, h => by
    rw [dW, W_at0]
    by_cases e : s = j
    · subst e
      have z : ∀ (gs : List Int) (t : Nat), s < t → dW 0 s gs t = 0 := by
        intro gs
        induction gs with
        | nil => intro t _; rfl
        | cons g r ih =>
          intro t ht
          rw [dW, W_at0, if_neg (by omega), ih (t + 1) (by omega), Int.mul_zero] <;> rfl
      rw [if_pos rfl, z fs (s + 1) (by omega), Nat.sub_self, Int.mul_one, Int.add_zero] <;> rfl
    · rw [if_neg e, Int.mul_zero, Int.zero_add, dW_at0 fs (s + 1) (by omega), show j - s = j - (s + 1) + 1 by omega] <;> rfl
theorem row_at0 {p : Int} {fs : List Int} (hp : 0 < p) (h : ∀ x ∈ fs, 0 ≤ x ∧ x < p) : (List.range fs.length).map (fun j => valZ p fs 0 j) = fs := by
  refine List.ext_getElem (by rw [List.length_map, List.length_range]) fun i h1 h2 => ?_
  have := h _ (List.getElem_mem h2)
  rw [List.getElem_map, List.getElem_range, val_dW (by omega), dW_at0 fs 0 (by omega), Nat.sub_zero, List.getD_eq_getElem?_getD, List.getElem?_eq_getElem h2]
  exact Int.emod_eq_of_lt this.1 this.2
end Fs

/-! tuples of which it is known that they carry no dict of their own -/
namespace Rg
open PySem PySem.Spec PyProof.Rows L2 Fs HT
/-- a plain tuple -/
def Pt (K : PySem.W.Frag) (H : Hp) (a : Addr) (xs : List V) : Prop := (∃ o : Obj, o.dict = none ∧ H a = some (.frz o (.tup xs))) ∨
  ∃ (o : Obj) (its : Array Value) (n : Nat), K.lookup a = some o ∧ o.cls = .type "tuple" ∧ o.dict = none ∧ o.data = .seq its n ∧ its.size ≤ sizeLine ∧ Vals xs its.toList
theorem Pt.sq {K : PySem.W.Frag} {H : Hp} {a : Addr} {xs : List V} (h : Pt K H a xs) : SqT K H a xs := by
  rcases h with ⟨o, _, e⟩ | ⟨o, its, n, h1, h2, _, h4⟩
  · exact .inl (.inr ⟨o, e⟩)
  · exact .inr ⟨o, its, n, h1, h2, h4⟩
abbrev tObj (us : List Value) : Obj := { cls := .type "tuple", data := .seq us.toArray }
/-- what a new plain tuple is to be followed by -/
def NewT (H : Hp) (xs : List V) (Q : VK) : Prop := ∀ (p : Addr) (o : Obj), H p = none → o.dict = none → Q (.ref p) (upd H p (.frz o (.tup xs)))
section
variable {X : Cx} {pins : List (Addr × Obj)} {σ : L2.St} {H : Hp} {s : Shared}
theorem newT_laid {xs : List V} {us : List Value} {Q : VK} (I : Inv X pins σ H s) (r : Vals xs us) (z : xs.length ≤ sizeLine) (q : NewT H xs Q) : EP X pins σ Q (.ref s.heap.objs.size) { s with heap := s.heap.push (tObj us) } :=
  ⟨.ref s.heap.objs.size, _, I.laid (t' := s.toks) (o := .frz (tObj us) (.tup xs)) (fun _ _ e => Heap.get?_push_of_some _ e) (Nat.le_refl _) ⟨Heap.get?_push_size _ rfl, z, us, r, IsTup.new _ _⟩, rfl, q _ _ (I.hok.fresh (Nat.le_refl _)) rfl⟩
end
section
variable {X : Cx}
theorem pe_tupF {es : List Expr} {t : TA} {x1 : Nat} {pos : Pos} (h : PA X es t) : PE X (.Tuple es x1 pos) (fun σ H Q => t σ H fun xs H1 => xs.length ≤ sizeLine ∧ NewT H1 xs Q) :=
  ⟨fun pins s σ H Q I hq => wpAny_Tuple_spliced (thn (h.run pos pins s σ H _ I hq) fun _ _ ⟨_, _, I1, r, z, q⟩ => ⟨by rw [← r.length]; exact z, newT_laid I1 r z q⟩)⟩
theorem call_tupleF : CallR X (.type "tuple") (fun xs H Q => ∃ p ys, xs = [.ref p] ∧ ((SqL X.K H p ys ∧ NewT H ys Q) ∨ (SqT X.K H p ys ∧ Q (.ref p) H))) := by
  intro pins s σ H xs us Q I r ⟨p, ys, e, h⟩
  subst e
  rcases h with ⟨hq, q⟩ | ⟨hq, q⟩
  · obtain ⟨u, rfl, rx⟩ := Vals.one r
    cases rx
    obtain ⟨its, r1, pl, z⟩ := I.list hq
    refine call_tuple_list pl.isList (fun h1 kp => ?_) (by rw [List.size_toArray, ← r1.length]; exact z)
    exact newT_laid (s := { s with heap := h1 }) (I.kept (t' := s.toks) kp) r1 z q
  · exact call_tuple_of pins s σ H _ us Q I r ⟨p, ys, rfl, .inr ⟨hq, q⟩⟩
theorem sl_tupF : SlR X (fun x lo hi H Q => ∃ a xs, x = .ref a ∧ SqT X.K H a xs ∧ (sIx xs.length 0 lo = 0 ∧ sIx xs.length xs.length hi = xs.length → Q (.ref a) H) ∧
    (¬ (sIx xs.length 0 lo = 0 ∧ sIx xs.length xs.length hi = xs.length) → NewT H (cutV xs lo hi) Q)) := by
  intro pins s σ H x v vl vu lo hi sl Q I rx hs pl pu ⟨a, xs, e, hx, q1, q2⟩
  subst e
  by_cases hw : sIx xs.length 0 lo = 0 ∧ sIx xs.length xs.length hi = xs.length
  · exact sl_tupA pins s σ H _ v vl vu lo hi sl Q I rx hs pl pu ⟨a, xs, rfl, hx, q1, fun z => absurd hw z⟩
  · cases rx
    obtain ⟨its, r, ht, z⟩ := I.tuple hx
    have hl : its.toArray.size = xs.length := by rw [List.size_toArray]; exact r.length.symm
    refine ⟨"tuple", _, PyProof.Rows.slot_tuple_getitem.lookup, ht.typeIs, getItem_tuple_cut ht hs pl pu (by rw [hl]; exact hw) ?_ (by rw [hl]; exact z)⟩
    rw [hl]
    exact newT_laid I ((r.drop _).take _) (Nat.le_trans (cutV_length xs lo hi) z) (q2 hw)
theorem op_catF : OpR X (binaryOp .Add) (fun x y H Q => ∃ a b xs ys, x = .ref a ∧ y = .ref b ∧ SqT X.K H a xs ∧ SqT X.K H b ys ∧ xs.length + ys.length ≤ sizeLine ∧
    (xs = [] → Q (.ref b) H) ∧ (xs ≠ [] → ys = [] → Q (.ref a) H) ∧ (xs ≠ [] → ys ≠ [] → NewT H (xs ++ ys) Q)) := by
  intro pins s σ H x y v u Q I rx ry ⟨a, b, xs, ys, e1, e2, ha, hb, z, q0, q1, q2⟩
  subst e1 e2
  by_cases hx : xs = []
  · exact op_catA pins s σ H _ _ v u Q I rx ry ⟨a, b, xs, ys, rfl, rfl, ha, hb, z, q0, q1, fun h => absurd hx h⟩
  · cases rx
    cases ry
    obtain ⟨its, r1, p1, _⟩ := I.tuple ha
    obtain ⟨its2, r2, p2, _⟩ := I.tuple hb
    refine cat_tup p1 p2 (fun w => hx (r1.nil_iff.mp w)) (fun w => ⟨.ref a, H, I, rfl, q1 hx (r2.nil_iff.mp w)⟩) (fun w => ?_) (by rw [← r1.length, ← r2.length]; exact z)
    exact newT_laid I (r1.append r2) (by rw [List.length_append]; exact z) (q2 hx fun h => w (r2.nil_iff.mpr h))
/-- e[::-1] of a tuple -/
theorem pe_revF {e : Expr} {te : TE} {k : Nat} {p1 p2 p3 pos : Pos} (he : PE X e te) : PE X (.Subscript e (.Slice none none (some (.UnaryOp .USub (.Constant (.int 1) k p1) p2)) p3) pos) (fun σ H Q => te σ H fun x H1 => ∃ a xs, x = .ref a ∧ SqT X.K H1 a xs ∧ NewT H1 xs.reverse Q) := by
  have st : PO X (some (.UnaryOp .USub (.Constant (.int 1) k p1) p2)) (tPart (tUn (rU fun i => .int (-i)) (tC (.int 1)))) := po_some (pe_un un_neg pe_int)
  refine ⟨fun pins s σ H Q I h => Subscript_ (thn (he.run pins s σ H _ I h) fun v s1 ⟨x, H1, I1, r1, a, xs, ex, hx, q⟩ => ?_)⟩
  subst ex
  cases r1
  refine wpAny_Slice (thn (po_none.run pins s1 σ H1 (fun o J => o = none ∧ J = H1) I1 ⟨rfl, rfl⟩) fun v1 s2 ⟨_, H2, I2, pl, e1, e2⟩ => ?_)
  subst e1 e2
  refine thn (po_none.run pins s2 σ H2 (fun o J => o = none ∧ J = H2) I2 ⟨rfl, rfl⟩) fun v2 s3 ⟨_, H3, I3, pu, e1, e2⟩ => ?_
  subst e1 e2
  refine thn (st.run pins s3 σ H3 (fun o J => o = some (-1) ∧ J = H3) I3 ⟨1, rfl, -1, rfl, rfl, rfl⟩) fun v3 s4 ⟨_, H4, I4, ps, e1, e2⟩ => ?_
  subst e1 e2
  have J : Inv X pins σ H4 { s4 with heap := s4.heap.push { cls := .type "slice", data := .fields #[v1, v2, v3] } } := I4.kept (t' := s4.toks) fun _ _ z => Heap.get?_push_of_some _ z
  obtain ⟨its, r, ht, z⟩ := J.tuple hx
  refine tail_any (ops := [.ref a, .ref s4.heap.objs.size]) ht.typeIs slot_tuple_getitem.lookup ?_ (by with_unfolding_all rfl)
  refine getItem_tuple_rev ht (Heap.IsSliceOf.new _ v1 v2 v3) pl pu ps ?_ (by rw [← r.length]; exact z)
  exact newT_laid J r.reverse (by rw [List.length_reverse]; exact z) q
end
end Rg

/-! plain values, a plain store, and what it means that they stand for the machine's -/
namespace Rg
open PySem PySem.Spec PyProof.Rows L2 Fs

/-- a value: tuples by what is in them, lists and the like by their number in the store -/
inductive D where
  | non | bl (b : Bool) | int (i : Int) | str (s : Str) | tup (xs : List D) | ref (n : Nat) | fl (xs : List D) | wt (xs : List D)
/-- what stands in the store: lists, dicts whose keys are ints and texts or tuples of such, instances of a class of the text -/
inductive Ob where
  | lst (xs : List D) | dK (kvs : List (Key × D)) | dT (kvs : List (List Key × D)) | ins (c : Str) (fs : List (Str × D))
abbrev Sto := List Ob
/-- an outcome: a value, an error of a class with what it is about, or nothing that is promised -/
inductive R (α : Type) where
  | ok (a : α) (s : Sto) | ex (c : Str) (d : D) (s : Sto) | no
def R.bind {α β : Type} (x : R α) (f : α → Sto → R β) : R β :=
  match x with
  | .ok a s => f a s
  | .ex c d s => .ex c d s
  | .no => .no
def lift {α : Type} : Option (α × Sto) → R α
  | some (a, s) => .ok a s
  | none => .no
abbrev En := List (Option D)
abbrev C := En → Sto → R D
abbrev Clo := List D → Sto → R D

/-- what is the same for a whole law: the written part, the names of the top, the tables of code objects -/
structure Gx where
  P : Program
  w : World
  K : PySem.W.Frag
  mg : Str → Option Value
  base : Heap
  TZ : Tabz

/-- a list that nobody changes -/
def SqF (K : PySem.W.Frag) (H : Hp) (a : Addr) (xs : List V) : Prop := (∃ o, H a = some (.frz o (.lst xs))) ∨
  ∃ (o : Obj) (its : Array Value) (n : Nat), K.lookup a = some o ∧ o.cls = .type "list" ∧ o.dict = none ∧ o.data = .seq its n ∧ its.size ≤ sizeLine ∧ Vals xs its.toList
theorem SqF.sq {K : PySem.W.Frag} {H : Hp} {a : Addr} {xs : List V} (h : SqF K H a xs) : SqL K H a xs := h.elim (fun ⟨o, e⟩ => .inl (.inr ⟨o, e⟩)) .inr
section
variable (K : PySem.W.Frag) (θ : List Addr) (H : Hp)
mutual
def RepV : D → V → Prop
  | .non, v => v = .non
  | .bl b, v => v = .bl b
  | .int i, v => v = .int i
  | .str s, v => v = .str s
  | .tup ds, v => ∃ (a : Addr) (vs : List V), v = .ref a ∧ Pt K H a vs ∧ RepVs ds vs
  | .wt ds, v => ∃ (a : Addr) (vs : List V), v = .ref a ∧ H a = some (.tup vs) ∧ RepVs ds vs
  | .ref n, v => ∃ a : Addr, v = .ref a ∧ θ[n]? = some a
  | .fl ds, v => ∃ (a : Addr) (vs : List V), v = .ref a ∧ SqF K H a vs ∧ RepVs ds vs
def RepVs : List D → List V → Prop
  | [], vs => vs = []
  | d :: ds, vs => ∃ v r, vs = v :: r ∧ RepV d v ∧ RepVs ds r
end
end
def Ob.vals : Ob → List D
  | .lst xs => xs
  | .dK kvs => kvs.map (·.2)
  | .dT kvs => kvs.map (·.2)
  | .ins _ fs => fs.map (·.2)
/-- the object with the values vs -/
def Ob.has (G : Gx) : Ob → List V → HO → Prop
  | .lst _, vs, o => o = .lst vs
  | .dK kvs, vs, o => o = .dK ((kvs.map (·.1)).zip vs)
  | .dT kvs, vs, o => o = .dT ((kvs.map (·.1)).zip vs)
  | .ins c fs, vs, o => ∃ C dx : Addr, G.mg c = some (.ref C) ∧ o = .ins C dx ((fs.map (·.1)).zip vs)
def Holds (G : Gx) (θ : List Addr) (H : Hp) (a : Addr) (o : Ob) : Prop := ∃ (vs : List V) (ho : HO), H a = some ho ∧ o.has G vs ho ∧ RepVs G.K θ H o.vals vs
/-- what may change -/
def IsMut (o : HO) : Prop := (∃ xs, o = .lst xs) ∨ (∃ k, o = .dK k) ∨ (∃ k, o = .dT k) ∨ ∃ c d f, o = .ins c d f
theorem Ob.has.mut {G : Gx} {o : Ob} {vs : List V} {ho : HO} (h : o.has G vs ho) : IsMut ho := by
  cases o with
  | lst xs => exact .inl ⟨_, h⟩
  | dK xs => exact .inr (.inl ⟨_, h⟩)
  | dT xs => exact .inr (.inr (.inl ⟨_, h⟩))
  | ins c fs => obtain ⟨C, dx, _, h⟩ := h; exact .inr (.inr (.inr ⟨_, _, _, h⟩))
theorem IsMut.ne {o u : HO} (h : IsMut o) (n : ¬ IsMut u) : u ≠ o := fun z => n (z ▸ h)
theorem mut_tup {xs : List V} : ¬ IsMut (.tup xs) := by rintro (⟨_, h⟩ | ⟨_, h⟩ | ⟨_, h⟩ | ⟨_, _, _, h⟩) <;> cases h
theorem mut_frz {o : Obj} {u : HO} : ¬ IsMut (.frz o u) := by rintro (⟨_, h⟩ | ⟨_, h⟩ | ⟨_, h⟩ | ⟨_, _, _, h⟩) <;> cases h
theorem mut_code {c : Addr} {q : Str} : ¬ IsMut (LamX.CodeO c q) := by rintro (⟨_, h⟩ | ⟨_, h⟩ | ⟨_, h⟩ | ⟨_, _, _, h⟩) <;> (unfold LamX.CodeO at h; cases h)
theorem mut_xd {fs : List (Str × V)} : ¬ IsMut (.xd fs) := by rintro (⟨_, h⟩ | ⟨_, h⟩ | ⟨_, h⟩ | ⟨_, _, _, h⟩) <;> cases h
theorem mut_tbl {ps : Array Value} : ¬ IsMut (.tbl ps) := by rintro (⟨_, h⟩ | ⟨_, h⟩ | ⟨_, h⟩ | ⟨_, _, _, h⟩) <;> cases h
theorem mut_lst {xs : List V} : IsMut (.lst xs) := .inl ⟨_, rfl⟩
/-- what never changes stays -/
structure Keep (H H' : Hp) : Prop where
  tup : ∀ a xs, H a = some (.tup xs) → H' a = some (.tup xs)
  frz : ∀ a o u, H a = some (.frz o u) → H' a = some (.frz o u)
  code : ∀ c q, H c = some (LamX.CodeO c q) → H' c = some (LamX.CodeO c q)
  xd : ∀ a fs, H a = some (.xd fs) → H' a = some (.xd fs)
theorem Keep.refl (H : Hp) : Keep H H := ⟨fun _ _ h => h, fun _ _ _ h => h, fun _ _ h => h, fun _ _ h => h⟩
theorem Keep.trans {H H1 H2 : Hp} (a : Keep H H1) (b : Keep H1 H2) : Keep H H2 :=
  ⟨fun c o h => b.tup c o (a.tup c o h), fun c o u h => b.frz c o u (a.frz c o u h), fun c o h => b.code c o (a.code c o h), fun c o h => b.xd c o (a.xd c o h)⟩
theorem Keep.same {H H' : Hp} (s : Same H H') : Keep H H' := ⟨fun _ _ h => s _ _ h, fun _ _ _ h => s _ _ h, fun _ _ h => s _ _ h, fun _ _ h => s _ _ h⟩
theorem Keep.sqF {K : PySem.W.Frag} {H H' : Hp} {a : Addr} {xs : List V} (k : Keep H H') (h : SqF K H a xs) : SqF K H' a xs := h.elim (fun ⟨o, e⟩ => .inl ⟨o, k.frz _ _ _ e⟩) .inr
theorem Keep.sqT {K : PySem.W.Frag} {H H' : Hp} {a : Addr} {xs : List V} (k : Keep H H') (h : SqT K H a xs) : SqT K H' a xs := by
  rcases h with (h | ⟨o, h⟩) | h
  · exact .inl (.inl (k.tup _ _ h))
  · exact .inl (.inr ⟨o, k.frz _ _ _ h⟩)
  · exact .inr h
theorem Keep.pt {K : PySem.W.Frag} {H H' : Hp} {a : Addr} {xs : List V} (k : Keep H H') (h : Pt K H a xs) : Pt K H' a xs := by
  rcases h with ⟨o, n, h⟩ | h
  · exact .inl ⟨o, n, k.frz _ _ _ h⟩
  · exact .inr h
/-- a thing is changed -/
theorem Keep.mut {H : Hp} {p : Addr} {ho o : HO} (h : H p = some ho) (m : IsMut ho) : Keep H (upd H p o) :=
  ⟨fun a xs e => by rw [upd_ne (ne_of e h (m.ne mut_tup))]; exact e, fun a o u e => by rw [upd_ne (ne_of e h (m.ne mut_frz))]; exact e,
    fun c q e => by rw [upd_ne (ne_of e h (m.ne mut_code))]; exact e, fun a fs e => by rw [upd_ne (ne_of e h (m.ne mut_xd))]; exact e⟩
theorem Keep.list {H : Hp} {p : Addr} {xs : List V} {o : HO} (h : H p = some (.lst xs)) : Keep H (upd H p o) := .mut h mut_lst
section
variable {K : PySem.W.Frag} {θ θ' : List Addr} {H H' : Hp}
theorem pre_get {θ θ' : List Addr} {n : Nat} {a : Addr} (p : θ <+: θ') (h : θ[n]? = some a) : θ'[n]? = some a := by
  obtain ⟨t, rfl⟩ := p
  rw [List.getElem?_append_left (List.getElem?_eq_some_iff.mp h).1]
  exact h
mutual
theorem RepV.step (p : θ <+: θ') (k : Keep H H') : ∀ (d : D) (v : V), RepV K θ H d v → RepV K θ' H' d v
  | .non, _, h => by unfold RepV at h ⊢; exact h
  | .bl _, _, h => by unfold RepV at h ⊢; exact h
  | .int _, _, h => by unfold RepV at h ⊢; exact h
  | .str _, _, h => by unfold RepV at h ⊢; exact h
  | .tup ds, _, h => by
    unfold RepV at h ⊢
    obtain ⟨a, vs, e, s, r⟩ := h
    exact ⟨a, vs, e, k.pt s, RepVs.step p k ds vs r⟩
  | .wt ds, _, h => by
    unfold RepV at h ⊢
    obtain ⟨a, vs, e, s, r⟩ := h
    exact ⟨a, vs, e, k.tup _ _ s, RepVs.step p k ds vs r⟩
  | .ref n, _, h => by
    unfold RepV at h ⊢
    obtain ⟨a, e, z⟩ := h
    exact ⟨a, e, pre_get p z⟩
  | .fl ds, _, h => by
    unfold RepV at h ⊢
    obtain ⟨a, vs, e, s, r⟩ := h
    exact ⟨a, vs, e, k.sqF s, RepVs.step p k ds vs r⟩
theorem RepVs.step (p : θ <+: θ') (k : Keep H H') : ∀ (ds : List D) (vs : List V), RepVs K θ H ds vs → RepVs K θ' H' ds vs
  | [], _, h => by unfold RepVs at h ⊢; exact h
  | d :: ds, _, h => by
    unfold RepVs at h ⊢
    obtain ⟨v, r, e, h1, h2⟩ := h
    exact ⟨v, r, e, RepV.step p k d v h1, RepVs.step p k ds r h2⟩
end
theorem Holds.step {G : Gx} {θ θ' : List Addr} {H H' : Hp} (p : θ <+: θ') (k : Keep H H') {a : Addr} (ha : H' a = H a) {o : Ob} (h : Holds G θ H a o) : Holds G θ' H' a o := by
  obtain ⟨vs, ho, e, q, r⟩ := h
  exact ⟨vs, ho, by rw [ha]; exact e, q, r.step p k⟩
end
/-! how far the numbers go -/
mutual
def D.under (n : Nat) : D → Bool
  | .ref m => decide (m < n)
  | .tup xs => D.unders n xs
  | .wt xs => D.unders n xs
  | .fl xs => D.unders n xs
  | _ => true
def D.unders (n : Nat) : List D → Bool
  | [] => true
  | d :: ds => D.under n d && D.unders n ds
end
mutual
theorem RepV.below {K : PySem.W.Frag} {θ : List Addr} {H : Hp} : ∀ (d : D) (v : V), RepV K θ H d v → d.under θ.length = true
  | .non, _, _ => by unfold D.under; rfl
  | .bl _, _, _ => by unfold D.under; rfl
  | .int _, _, _ => by unfold D.under; rfl
  | .str _, _, _ => by unfold D.under; rfl
  | .tup ds, _, h => by
    unfold RepV at h
    unfold D.under
    obtain ⟨a, vs, _, _, r⟩ := h
    exact RepVs.below ds vs r
  | .wt ds, _, h => by
    unfold RepV at h
    unfold D.under
    obtain ⟨a, vs, _, _, r⟩ := h
    exact RepVs.below ds vs r
  | .ref n, _, h => by
    unfold RepV at h
    unfold D.under
    obtain ⟨a, _, z⟩ := h
    exact decide_eq_true (List.getElem?_eq_some_iff.mp z).1
  | .fl ds, _, h => by
    unfold RepV at h
    unfold D.under
    obtain ⟨a, vs, _, _, r⟩ := h
    exact RepVs.below ds vs r
theorem RepVs.below {K : PySem.W.Frag} {θ : List Addr} {H : Hp} : ∀ (ds : List D) (vs : List V), RepVs K θ H ds vs → D.unders θ.length ds = true
  | [], _, _ => by unfold D.unders; rfl
  | d :: ds, _, h => by
    unfold RepVs at h
    unfold D.unders
    obtain ⟨v, r, _, h1, h2⟩ := h
    rw [RepV.below d v h1, RepVs.below ds r h2]
    rfl
end
mutual
theorem RepV.lower {K : PySem.W.Frag} {θ θ' : List Addr} {H : Hp} (p : θ <+: θ') : ∀ (d : D) (v : V), d.under θ.length = true → RepV K θ' H d v → RepV K θ H d v
  | .non, _, _, h => by unfold RepV at h ⊢; exact h
  | .bl _, _, _, h => by unfold RepV at h ⊢; exact h
  | .int _, _, _, h => by unfold RepV at h ⊢; exact h
  | .str _, _, _, h => by unfold RepV at h ⊢; exact h
  | .tup ds, _, b, h => by
    unfold RepV at h ⊢
    unfold D.under at b
    obtain ⟨a, vs, e, s, r⟩ := h
    exact ⟨a, vs, e, s, RepVs.lower p ds vs b r⟩
  | .wt ds, _, b, h => by
    unfold RepV at h ⊢
    unfold D.under at b
    obtain ⟨a, vs, e, s, r⟩ := h
    exact ⟨a, vs, e, s, RepVs.lower p ds vs b r⟩
  | .ref n, _, b, h => by
    unfold RepV at h ⊢
    unfold D.under at b
    obtain ⟨a, e, z⟩ := h
    refine ⟨a, e, ?_⟩
    obtain ⟨t, rfl⟩ := p
    rw [List.getElem?_append_left (of_decide_eq_true b)] at z
    exact z
  | .fl ds, _, b, h => by
    unfold RepV at h ⊢
    unfold D.under at b
    obtain ⟨a, vs, e, s, r⟩ := h
    exact ⟨a, vs, e, s, RepVs.lower p ds vs b r⟩
theorem RepVs.lower {K : PySem.W.Frag} {θ θ' : List Addr} {H : Hp} (p : θ <+: θ') : ∀ (ds : List D) (vs : List V), D.unders θ.length ds = true → RepVs K θ' H ds vs → RepVs K θ H ds vs
  | [], _, _, h => by unfold RepVs at h ⊢; exact h
  | d :: ds, _, b, h => by
    unfold RepVs at h ⊢
    unfold D.unders at b
    rw [Bool.and_eq_true] at b
    obtain ⟨v, r, e, h1, h2⟩ := h
    exact ⟨v, r, e, RepV.lower p d v b.1 h1, RepVs.lower p ds r b.2 h2⟩
end
section
variable (G : Gx)
structure Rel (θ : List Addr) (st : Sto) (H : Hp) : Prop where
  len : θ.length = st.length
  nd : θ.Nodup
  obs : ∀ (n : Nat) (o : Ob) (a : Addr), st[n]? = some o → θ[n]? = some a → Holds G θ H a o
  tabs : LamX.Tabs G.TZ H
/-- what is wanted of an outcome -/
def Res {α β : Type} (rep : List Addr → Hp → α → β → Prop) (W : WX) (σ : L2.St) (θ : List Addr) (H : Hp) (r : R α) (Q : β → Hp → Prop) : Prop :=
  match r with
  | .ok a st' => ∀ (θ' : List Addr) (b : β) (H' : Hp), θ <+: θ' → Keep H H' → Rel G θ' st' H' → rep θ' H' a b → Q b H'
  | .ex c d st' => ∀ (θ' : List Addr) (v : V) (H' : Hp) (Ca dx : Addr), θ <+: θ' → Keep H H' → Rel G θ' st' H' → RepV G.K θ' H' d v → G.mg c = some (.ref Ca) → H' dx = some (.xd [("what", v)]) → W (.ref Ca) (some dx) σ H'
  | .no => False
abbrev rV : List Addr → Hp → D → V → Prop := fun θ H d v => RepV G.K θ H d v
abbrev rVs : List Addr → Hp → List D → List V → Prop := fun θ H ds vs => RepVs G.K θ H ds vs
abbrev rB : List Addr → Hp → Bool → Bool → Prop := fun _ _ b c => b = c
/-- a later state -/
structure Later (s0 : Shared) (H0 : Hp) (s : Shared) (H : Hp) : Prop where
  un : ∃ fs, Un fs [] H0 H s0.heap s.heap
  kp : Keep H0 H
/-- what stands at a may be called at any later state, and does what φ says -/
structure CallsM (k : Nat) (s0 : Shared) (H0 : Hp) (θ0 : List Addr) (a : Addr) (φ : Clo) : Prop where
  fn : ∀ s H, Later s0 H0 s H → PySem.W.FnAt a s.heap
  run : ∀ (A : Around) (outer : List Env) (s : Shared) (H : Hp) (us : List Value) (vs : List V) (ds : List D) (θ : List Addr) (st : Sto) (Q : VK) (E : XK), Room k A → Env0 G.P G.w G.K G.mg G.base A outer s H → Later s0 H0 s H → θ0 <+: θ → Rel G θ st H → RepVs G.K θ H ds vs → Vals vs us →
    Res G (rV G) (fun c d _ H => E c d H) [] θ H (φ ds st) Q → codeAny (model G.P G.w) A (.call (.ref a) ⟨us, []⟩) (CR (L2.CX G.P G.w) outer G.P G.w H s Q E) s
/-- the frame that one is in: its first state, and the functions that stand in its slots -/
structure Fx where
  s0 : Shared
  H0 : Hp
  k : Nat
  cl : List (Nat × Clo)
  ex : Option (Nat × Addr × Addr × D) := none
/-- the slot may be written -/
def Fx.free (F : Fx) (i : Nat) : Bool := (F.cl.lookup i).isNone && match F.ex with
  | none => true
  | some e => e.1 != i
/-- the slots hold at least what ρ says -/
structure EnvR (F : Fx) (θ : List Addr) (H : Hp) (ρ : En) (σ : L2.St) : Prop where
  len : ρ.length = σ.length
  has : ∀ (i : Nat) (d : D), ρ[i]? = some (some d) → ∃ v, σ[i]? = some (some v) ∧ RepV G.K θ H d v
  clo : ∀ (i : Nat) (φ : Clo), F.cl.lookup i = some φ → Keep F.H0 H ∧ ∃ a : Addr, σ[i]? = some (some (.ref a)) ∧ CallsM G F.k F.s0 F.H0 θ a φ
  exc : ∀ (i : Nat) (a dd : Addr) (d : D), F.ex = some (i, a, dd, d) → σ[i]? = some (some (.ref a)) ∧ ∃ v, H dd = some (.xd [("what", v)]) ∧ RepV G.K θ H d v
end
section
variable {G : Gx} {F : Fx} {θ θ' : List Addr} {H H' : Hp} {st : Sto} {ρ : En} {σ : L2.St} {W : WX}
theorem un_mono2 {fs fs' ex : List Addr} {H H' : Hp} {h h' : Heap} (u : Un fs ex H H' h h') (sub : ∀ b ∈ fs, b ∈ fs') : Un fs' ex H H' h h' :=
  ⟨fun b o e n nf nx => u.keep b o e n (fun z => nf (sub b z)) nx, fun b o e n _ nx => u.any e n nx, u.free, u.there, u.tups, u.frzs, u.tbls⟩
theorem Later.trans {s0 s1 s2 : Shared} {H0 H1 H2 : Hp} (a : Later s0 H0 s1 H1) (b : Later s1 H1 s2 H2) : Later s0 H0 s2 H2 := by
  obtain ⟨fs, u⟩ := a.un
  obtain ⟨fs2, u2⟩ := b.un
  exact ⟨⟨fs ++ fs2, (un_mono2 u fun b hb => List.mem_append_left _ hb).trans (un_mono2 u2 fun b hb => List.mem_append_right _ hb)⟩, a.kp.trans b.kp⟩
theorem Later.refl (s : Shared) (H : Hp) : Later s H s H := ⟨⟨[], Un.kept fun _ _ z => z⟩, Keep.refl H⟩
theorem CallsM.step {k : Nat} {s0 : Shared} {H0 : Hp} {a : Addr} {φ : Clo} (p : θ <+: θ') (c : CallsM G k s0 H0 θ a φ) : CallsM G k s0 H0 θ' a φ :=
  ⟨c.fn, fun A outer s H us vs ds θ2 st Q E hr e0 l p2 => c.run A outer s H us vs ds θ2 st Q E hr e0 l (p.trans p2)⟩
theorem CallsM.later {k : Nat} {s0 s1 : Shared} {H0 H1 : Hp} {a : Addr} {φ : Clo} (c : CallsM G k s0 H0 θ a φ) (l : Later s0 H0 s1 H1) : CallsM G k s1 H1 θ a φ :=
  ⟨fun s H l2 => c.fn s H (l.trans l2), fun A outer s H us vs ds θ2 st Q E hr e0 l2 => c.run A outer s H us vs ds θ2 st Q E hr e0 (l.trans l2)⟩
theorem EnvR.step (p : θ <+: θ') (k : Keep H H') (h : EnvR G F θ H ρ σ) : EnvR G F θ' H' ρ σ :=
  ⟨h.len, fun i d e => by
    obtain ⟨v, e1, r⟩ := h.has i d e
    exact ⟨v, e1, r.step p k⟩, fun i φ e => by
    obtain ⟨k0, a, e1, c⟩ := h.clo i φ e
    exact ⟨k0.trans k, a, e1, c.step p⟩, fun i a dd d e => by
    obtain ⟨e1, v, e2, r⟩ := h.exc i a dd d e
    exact ⟨e1, v, k.xd _ _ e2, r.step p k⟩⟩
theorem Res.seq {α β γ δ : Type} {rep : List Addr → Hp → α → β → Prop} {rep2 : List Addr → Hp → γ → δ → Prop} {r : R α} {f : α → Sto → R γ} {Q : δ → Hp → Prop} {Q1 : β → Hp → Prop}
    (h : Res G rep2 W σ θ H (r.bind f) Q)
    (k : ∀ (θ' : List Addr) (a : α) (st' : Sto) (b : β) (H' : Hp), θ <+: θ' → Keep H H' → Rel G θ' st' H' → rep θ' H' a b → Res G rep2 W σ θ' H' (f a st') Q → Q1 b H') : Res G rep W σ θ H r Q1 := by
  cases r with
  | ok a st' =>
    intro θ' b H' p kp R q
    refine k θ' a st' b H' p kp R q ?_
    have h : Res G rep2 W σ θ H (f a st') Q := h
    cases e : f a st' with
    | ok c s2 =>
      rw [e] at h
      exact fun θ2 d H2 p2 k2 => h θ2 d H2 (p.trans p2) (kp.trans k2)
    | ex c d s2 =>
      rw [e] at h
      exact fun θ2 v H2 Ca dx p2 k2 => h θ2 v H2 Ca dx (p.trans p2) (kp.trans k2)
    | no =>
      rw [e] at h
      exact h
  | ex c d s => exact h
  | no => exact h
/-- an outcome at once -/
theorem Res.now {α β : Type} {rep : List Addr → Hp → α → β → Prop} {a : α} {b : β} {Q : β → Hp → Prop} (h : Res G rep W σ θ H (.ok a st) Q) (R : Rel G θ st H) (q : rep θ H a b) : Q b H :=
  h θ b H (List.prefix_refl θ) (Keep.refl H) R q
/-- a new thing in the heap that is not in the store -/
theorem Rel.new (R : Rel G θ st H) {p : Addr} {o : HO} (hp : H p = none) : Rel G θ st (upd H p o) := by
  refine ⟨R.len, R.nd, fun n o' a e1 e2 => ?_, R.tabs.ext (same_new hp)⟩
  have h := R.obs n o' a e1 e2
  refine h.step (List.prefix_refl θ) (Keep.same (same_new hp)) (upd_ne ?_)
  rintro rfl
  obtain ⟨vs, ho, e, _⟩ := h
  rw [hp] at e
  cases e
/-- a new object of the store -/
theorem Rel.pushO (R : Rel G θ st H) {p : Addr} {o : Ob} {vs : List V} {ho : HO} (hp : H p = none) (hh : o.has G vs ho) (r : RepVs G.K θ H o.vals vs) : Rel G (θ ++ [p]) (st ++ [o]) (upd H p ho) := by
  have hk := Keep.same (same_new (o := ho) hp)
  have hpre : θ <+: θ ++ [p] := List.prefix_append _ _
  have hne : ∀ n a, θ[n]? = some a → a ≠ p := fun n a e z => by
    subst z
    have hn : n < st.length := by rw [← R.len]; exact (List.getElem?_eq_some_iff.mp e).1
    obtain ⟨vs, ho, e2, _⟩ := R.obs n _ _ (List.getElem?_eq_getElem hn) e
    rw [hp] at e2
    cases e2
  refine ⟨by rw [List.length_append, List.length_append, R.len]; rfl, ?_, fun n o a e1 e2 => ?_, R.tabs.ext (same_new hp)⟩
  · refine List.nodup_append.mpr ⟨R.nd, by simp, fun a ha b hb z => ?_⟩
    rw [List.mem_singleton] at hb
    obtain ⟨n, hn⟩ := List.mem_iff_getElem?.mp ha
    exact hne n a hn (z.trans hb)
  · by_cases hn : n < θ.length
    · rw [List.getElem?_append_left hn] at e2
      rw [List.getElem?_append_left (by rw [← R.len]; exact hn)] at e1
      exact (R.obs n o a e1 e2).step hpre hk (upd_ne (hne n a e2))
    · rw [List.getElem?_append_right (by omega)] at e2
      rw [List.getElem?_append_right (by rw [← R.len]; omega), ← R.len] at e1
      have hz : n - θ.length = 0 := by
        have := (List.getElem?_eq_some_iff.mp e2).1
        simp at this
        omega
      rw [hz] at e1 e2
      simp at e1 e2
      subst e1 e2
      exact ⟨vs, ho, upd_same, hh, r.step hpre hk⟩
theorem Rel.push (R : Rel G θ st H) {p : Addr} {xs : List D} {vs : List V} (hp : H p = none) (r : RepVs G.K θ H xs vs) : Rel G (θ ++ [p]) (st ++ [.lst xs]) (upd H p (.lst vs)) := R.pushO hp rfl r
/-- an object of the store is changed -/
theorem Rel.setO (R : Rel G θ st H) {n : Nat} {p : Addr} {o : Ob} {vs : List V} {h0 ho : HO} (ht : θ[n]? = some p) (hp : H p = some h0) (hm : IsMut h0) (hh : o.has G vs ho) (r : RepVs G.K θ H o.vals vs) :
    Rel G θ (st.set n o) (upd H p ho) := by
  have hk := Keep.mut (o := ho) hp hm
  have hnt : n < st.length := by rw [← R.len]; exact (List.getElem?_eq_some_iff.mp ht).1
  refine ⟨by rw [List.length_set]; exact R.len, R.nd, fun m o' a e1 e2 => ?_, fun q hq => ?_⟩
  · by_cases hmn : m = n
    · subst hmn
      rw [ht] at e2
      cases e2
      rw [List.getElem?_set_self hnt] at e1
      cases e1
      exact ⟨vs, ho, upd_same, hh, r.step (List.prefix_refl θ) hk⟩
    · rw [List.getElem?_set_ne (Ne.symm hmn)] at e1
      refine (R.obs m o' a e1 e2).step (List.prefix_refl θ) hk (upd_ne ?_)
      intro z
      refine hmn ?_
      subst z
      obtain ⟨l1, e3⟩ := List.getElem?_eq_some_iff.mp e2
      obtain ⟨l2, e4⟩ := List.getElem?_eq_some_iff.mp ht
      exact (List.getElem_inj R.nd).mp (e3.trans e4.symm)
  · obtain ⟨ps, h1, h2, h3⟩ := R.tabs q hq
    refine ⟨ps, by rw [upd_ne (ne_of h1 hp (hm.ne mut_tbl))]; exact h1, h2, fun pos cv hc => ?_⟩
    obtain ⟨c, e, f⟩ := h3 pos cv hc
    exact ⟨c, e, hk.code _ _ f⟩
theorem Rel.set (R : Rel G θ st H) {n : Nat} {p : Addr} {xs ys : List D} {ws vs : List V} (hn : st[n]? = some (.lst xs)) (ht : θ[n]? = some p) (hp : H p = some (.lst ws)) (r : RepVs G.K θ H ys vs) :
    Rel G θ (st.set n (.lst ys)) (upd H p (.lst vs)) := R.setO (o := .lst ys) ht hp mut_lst rfl r
theorem Rel.atO (R : Rel G θ st H) {n : Nat} {o : Ob} (hn : st[n]? = some o) : ∃ (a : Addr) (vs : List V) (ho : HO), θ[n]? = some a ∧ H a = some ho ∧ o.has G vs ho ∧ RepVs G.K θ H o.vals vs := by
  have h1 : n < θ.length := by rw [R.len]; exact (List.getElem?_eq_some_iff.mp hn).1
  obtain ⟨vs, ho, e, q, r⟩ := R.obs n _ _ hn (List.getElem?_eq_getElem h1)
  exact ⟨_, vs, ho, List.getElem?_eq_getElem h1, e, q, r⟩
theorem Rel.at (R : Rel G θ st H) {n : Nat} {xs : List D} (hn : st[n]? = some (.lst xs)) : ∃ (a : Addr) (vs : List V), θ[n]? = some a ∧ H a = some (.lst vs) ∧ RepVs G.K θ H xs vs := by
  obtain ⟨a, vs, ho, h1, e, q, r⟩ := R.atO hn
  cases q
  exact ⟨a, vs, h1, e, r⟩
/-- what a call leaves behind is let go of: a value that has nothing new in it, or one new thing -/
noncomputable def gcD (st : Sto) (d : D) (s : Sto) : D × Sto :=
  haveI := Classical.propDecidable
  if s.take st.length = st then
    if d.under st.length = true then (d, st) else
      match d with
      | .ref n => match s[n]? with
        | some o => if st.length ≤ n ∧ D.unders st.length o.vals = true then (.ref st.length, st ++ [o]) else (d, s)
        | none => (d, s)
      | _ => (d, s)
  else (d, s)
noncomputable def gcR (st : Sto) : R D → R D
  | .ok d s => .ok (gcD st d s).1 (gcD st d s).2
  | .ex c d s => haveI := Classical.propDecidable; if s.take st.length = st ∧ d.under st.length = true then .ex c d st else .ex c d s
  | .no => .no
theorem Rel.take {θ2 : List Addr} {H2 : Hp} {s : Sto} (R0 : Rel G θ st H) (p : θ <+: θ2) (R2 : Rel G θ2 s H2) (e : s.take st.length = st) : Rel G θ st H2 := by
  refine ⟨R0.len, R0.nd, fun n o a e1 e2 => ?_, R2.tabs⟩
  have hn : n < st.length := (List.getElem?_eq_some_iff.mp e1).1
  have e3 : s[n]? = some o := by
    rw [← e, List.getElem?_take, if_pos hn] at e1
    exact e1
  obtain ⟨vs, ho, h1, h2, h3⟩ := R2.obs n o a e3 (pre_get p e2)
  obtain ⟨ws, hu, _, _, g3⟩ := R0.obs n o a e1 e2
  exact ⟨vs, ho, h1, h2, RepVs.lower p _ _ (RepVs.below _ _ g3) h3⟩
theorem gcR_sound {Q : V → Hp → Prop} {r : R D} (R0 : Rel G θ st H) (h : Res G (rV G) W σ θ H (gcR st r) Q) : Res G (rV G) W σ θ H r Q := by
  cases r with
  | no => exact h
  | ex c d s =>
    unfold gcR at h
    simp only at h
    split at h
    · rename_i hc
      intro θ2 v H2 Ca dx p k R2 r
      exact h θ v H2 Ca dx (List.prefix_refl _) k (R0.take p R2 hc.1) (RepV.lower p _ _ (by rw [R0.len]; exact hc.2) r)
    · exact h
  | ok d s =>
    intro θ2 b H2 p k R2 r
    have h : ∀ (θ' : List Addr) (b : V) (H' : Hp), θ <+: θ' → Keep H H' → Rel G θ' (gcD st d s).2 H' → RepV G.K θ' H' (gcD st d s).1 b → Q b H' := h
    unfold gcD at h
    split at h
    · rename_i hc
      split at h
      · rename_i hb
        exact h θ b H2 (List.prefix_refl _) k (R0.take p R2 hc) (RepV.lower p _ _ (by rw [R0.len]; exact hb) r)
      · split at h
        · rename_i n _ _
          split at h
          · rename_i o ho
            split at h
            · rename_i hn
              unfold RepV at r
              obtain ⟨a, rfl, ea⟩ := r
              obtain ⟨vs, hu, h1, h2, h3⟩ := R2.obs n o a ho ea
              have hnew : ∀ m c, θ[m]? = some c → c ≠ a := fun m c e z => by
                subst z
                have hm : m < θ.length := (List.getElem?_eq_some_iff.mp e).1
                obtain ⟨l1, e3⟩ := List.getElem?_eq_some_iff.mp (pre_get p e)
                obtain ⟨l2, e4⟩ := List.getElem?_eq_some_iff.mp ea
                have := (List.getElem_inj R2.nd).mp (e3.trans e4.symm)
                have := R0.len
                omega
              have hpre : θ <+: θ ++ [a] := List.prefix_append _ _
              have RT := R0.take p R2 hc
              refine h (θ ++ [a]) _ H2 hpre k ⟨by rw [List.length_append, List.length_append, R0.len]; rfl, ?_, fun m o' c e1 e2 => ?_, R2.tabs⟩ ?_
              · refine List.nodup_append.mpr ⟨R0.nd, by simp, fun c hc2 b hb z => ?_⟩
                rw [List.mem_singleton] at hb
                obtain ⟨m, hm⟩ := List.mem_iff_getElem?.mp hc2
                exact hnew m c hm (z.trans hb)
              · by_cases hm : m < θ.length
                · rw [List.getElem?_append_left hm] at e2
                  rw [List.getElem?_append_left (by rw [← R0.len]; exact hm)] at e1
                  exact (RT.obs m o' c e1 e2).step hpre (Keep.refl _) rfl
                · rw [List.getElem?_append_right (by omega)] at e2
                  rw [List.getElem?_append_right (by rw [← R0.len]; omega), ← R0.len] at e1
                  have hz : m - θ.length = 0 := by
                    have := (List.getElem?_eq_some_iff.mp e2).1
                    simp at this
                    omega
                  rw [hz] at e1 e2
                  simp at e1 e2
                  subst e1 e2
                  exact ⟨vs, hu, h1, h2, (RepVs.lower p _ _ (by rw [R0.len]; exact hn.2) h3).step hpre (Keep.refl _)⟩
              · unfold RepV
                exact ⟨a, rfl, by rw [← R0.len]; simp⟩
            · exact h θ2 b H2 p k R2 r
          · exact h θ2 b H2 p k R2 r
        · exact h θ2 b H2 p k R2 r
    · exact h θ2 b H2 p k R2 r
end
/-! lists of values -/
section
variable {K : PySem.W.Frag} {θ : List Addr} {H : Hp}
theorem RepVs.length : ∀ {ds : List D} {vs : List V}, RepVs K θ H ds vs → ds.length = vs.length
  | [], vs, h => by unfold RepVs at h; subst h; rfl
  | d :: ds, vs, h => by
    unfold RepVs at h
    obtain ⟨v, r, rfl, _, h2⟩ := h
    rw [List.length_cons, List.length_cons, h2.length]
theorem RepVs.get : ∀ {ds : List D} {vs : List V} {i : Nat} {d : D}, RepVs K θ H ds vs → ds[i]? = some d → ∃ v, vs[i]? = some v ∧ RepV K θ H d v
  | [], _, _, _, _, e => by simp at e
  | d :: ds, vs, i, d', h, e => by
    unfold RepVs at h
    obtain ⟨v, r, rfl, h1, h2⟩ := h
    cases i with
    | zero => simp at e; subst e; exact ⟨v, rfl, h1⟩
    | succ i => exact h2.get (i := i) (by simpa using e)
theorem RepVs.nil_iff : RepVs K θ H [] [] := by unfold RepVs; rfl
theorem RepVs.cons {d : D} {v : V} {ds : List D} {vs : List V} (a : RepV K θ H d v) (b : RepVs K θ H ds vs) : RepVs K θ H (d :: ds) (v :: vs) := by
  unfold RepVs
  exact ⟨v, vs, rfl, a, b⟩
theorem RepVs.append : ∀ {ds es : List D} {vs ws : List V}, RepVs K θ H ds vs → RepVs K θ H es ws → RepVs K θ H (ds ++ es) (vs ++ ws)
  | [], _, vs, _, h, g => by unfold RepVs at h; subst h; exact g
  | d :: ds, _, vs, _, h, g => by
    unfold RepVs at h
    obtain ⟨v, r, rfl, h1, h2⟩ := h
    exact .cons h1 (h2.append g)
theorem RepVs.take : ∀ {ds : List D} {vs : List V} (n : Nat), RepVs K θ H ds vs → RepVs K θ H (ds.take n) (vs.take n)
  | _, _, 0, _ => by rw [List.take_zero, List.take_zero]; exact .nil_iff
  | [], vs, n + 1, h => by unfold RepVs at h; subst h; exact .nil_iff
  | d :: ds, vs, n + 1, h => by
    unfold RepVs at h
    obtain ⟨v, r, rfl, h1, h2⟩ := h
    exact .cons h1 (h2.take n)
theorem RepVs.drop : ∀ {ds : List D} {vs : List V} (n : Nat), RepVs K θ H ds vs → RepVs K θ H (ds.drop n) (vs.drop n)
  | _, _, 0, h => h
  | [], vs, n + 1, h => by unfold RepVs at h; subst h; exact .nil_iff
  | d :: ds, vs, n + 1, h => by
    unfold RepVs at h
    obtain ⟨v, r, rfl, h1, h2⟩ := h
    exact h2.drop n
theorem RepVs.reverse : ∀ {ds : List D} {vs : List V}, RepVs K θ H ds vs → RepVs K θ H ds.reverse vs.reverse
  | [], vs, h => by unfold RepVs at h; subst h; exact .nil_iff
  | d :: ds, vs, h => by
    unfold RepVs at h
    obtain ⟨v, r, rfl, h1, h2⟩ := h
    rw [List.reverse_cons, List.reverse_cons]
    exact h2.reverse.append (.cons h1 .nil_iff)
theorem RepVs.set : ∀ {ds : List D} {vs : List V} {d : D} {v : V} (i : Nat), RepVs K θ H ds vs → RepV K θ H d v → RepVs K θ H (ds.set i d) (vs.set i v)
  | [], vs, _, _, _, h, _ => by unfold RepVs at h; subst h; exact .nil_iff
  | d :: ds, vs, d', v', i, h, g => by
    unfold RepVs at h
    obtain ⟨v, r, rfl, h1, h2⟩ := h
    cases i with
    | zero => exact .cons g h2
    | succ i => exact .cons h1 (h2.set i g)
theorem RepVs.erase : ∀ {ds : List D} {vs : List V} (i : Nat), RepVs K θ H ds vs → RepVs K θ H (ds.eraseIdx i) (vs.eraseIdx i)
  | [], vs, _, h => by unfold RepVs at h; subst h; exact .nil_iff
  | d :: ds, vs, i, h => by
    unfold RepVs at h
    obtain ⟨v, r, rfl, h1, h2⟩ := h
    cases i with
    | zero => exact h2
    | succ i => exact .cons h1 (h2.erase i)
theorem RepVs.rep {ds : List D} {vs : List V} (h : RepVs K θ H ds vs) : ∀ n : Nat, RepVs K θ H (List.replicate n ds).flatten (List.replicate n vs).flatten
  | 0 => .nil_iff
  | n + 1 => by
    rw [List.replicate_succ, List.replicate_succ, List.flatten_cons, List.flatten_cons]
    exact h.append (h.rep n)
/-- ints -/
theorem RepVs.ints : ∀ {ns : List Int} {vs : List V}, RepVs K θ H (ns.map D.int) vs ↔ vs = ns.map V.int
  | [], vs => by unfold List.map RepVs; exact Iff.rfl
  | n :: ns, vs => by
    rw [List.map_cons, List.map_cons]
    unfold RepVs
    constructor
    · rintro ⟨v, r, rfl, h1, h2⟩
      unfold RepV at h1
      rw [h1, RepVs.ints.mp h2]
    · rintro rfl
      exact ⟨_, _, rfl, by unfold RepV; rfl, RepVs.ints.mpr rfl⟩
theorem RepVs.bls : ∀ {ns : List Bool} {vs : List V}, RepVs K θ H (ns.map D.bl) vs ↔ vs = ns.map V.bl
  | [], vs => by unfold List.map RepVs; exact Iff.rfl
  | n :: ns, vs => by
    rw [List.map_cons, List.map_cons]
    unfold RepVs
    constructor
    · rintro ⟨v, r, rfl, h1, h2⟩
      unfold RepV at h1
      rw [h1, RepVs.bls.mp h2]
    · rintro rfl
      exact ⟨_, _, rfl, by unfold RepV; rfl, RepVs.bls.mpr rfl⟩
end
end Rg

/-! expressions and what they are worth in the plain store -/
namespace Rg
open PySem PySem.Spec PyProof.Rows L2 Fs
section
variable {K : PySem.W.Frag} {θ : List Addr} {H : Hp} {v : V}
theorem rep_non : RepV K θ H .non v ↔ v = .non := by unfold RepV; exact Iff.rfl
theorem rep_bl {b : Bool} : RepV K θ H (.bl b) v ↔ v = .bl b := by unfold RepV; exact Iff.rfl
theorem rep_int {i : Int} : RepV K θ H (.int i) v ↔ v = .int i := by unfold RepV; exact Iff.rfl
theorem rep_str {s : Str} : RepV K θ H (.str s) v ↔ v = .str s := by unfold RepV; exact Iff.rfl
theorem rep_tup {ds : List D} : RepV K θ H (.tup ds) v ↔ ∃ (a : Addr) (vs : List V), v = .ref a ∧ Pt K H a vs ∧ RepVs K θ H ds vs := by conv => lhs; unfold RepV
theorem rep_wt {ds : List D} : RepV K θ H (.wt ds) v ↔ ∃ (a : Addr) (vs : List V), v = .ref a ∧ H a = some (.tup vs) ∧ RepVs K θ H ds vs := by conv => lhs; unfold RepV
theorem rep_tupE {ds : List D} (h : RepV K θ H (.tup ds) v) : ∃ (a : Addr) (vs : List V), v = .ref a ∧ SqT K H a vs ∧ RepVs K θ H ds vs := by
  obtain ⟨a, vs, e, p, r⟩ := rep_tup.mp h
  exact ⟨a, vs, e, p.sq, r⟩
theorem rep_fl {ds : List D} : RepV K θ H (.fl ds) v ↔ ∃ (a : Addr) (vs : List V), v = .ref a ∧ SqF K H a vs ∧ RepVs K θ H ds vs := by conv => lhs; unfold RepV
theorem rep_ref {n : Nat} : RepV K θ H (.ref n) v ↔ ∃ a : Addr, v = .ref a ∧ θ[n]? = some a := by unfold RepV; exact Iff.rfl
end

abbrev gx (X : Cx) (TZ : Tabz) : Gx := ⟨X.prog, X.w, X.K, X.mg, X.base, TZ⟩
theorem PE.imp {X : Cx} {e : Expr} {t t' : TE} (h : PE X e t) (i : ∀ σ H Q, t' σ H Q → t σ H Q) : PE X e t' := ⟨fun pins s σ H Q I q => h.run pins s σ H Q I (i _ _ _ q)⟩
theorem PT.imp {X : Cx} {e : Expr} {t t' : TT} (h : PT X e t) (i : ∀ σ H Q, t' σ H Q → t σ H Q) : PT X e t' := ⟨fun pins s σ H Q I q => h.run pins s σ H Q I (i _ _ _ q)⟩
theorem PW.imp {X : Cx} {e : Expr} {t t' : TT} (h : PW X e t) (i : ∀ σ H Q, t' σ H Q → t σ H Q) : PW X e t' := ⟨fun whole pins s σ H Q I q => h.run whole pins s σ H Q I (i _ _ _ q)⟩
theorem PA.imp {X : Cx} {es : List Expr} {t t' : TA} (h : PA X es t) (i : ∀ σ H Q, t' σ H Q → t σ H Q) : PA X es t' := ⟨fun pos pins s σ H Q I q => h.run pos pins s σ H Q I (i _ _ _ q)⟩
theorem PS.imp {X : Cx} {st : Stmt} {t t' : TS} (h : PS X st t) (i : ∀ D σ H, t' D σ H → t D σ H) : PS X st t' := ⟨fun pins s σ H D I q => h.run pins s σ H D I (i _ _ _ q)⟩
theorem PSs.imp {X : Cx} {st : List Stmt} {t t' : TS} (h : PSs X st t) (i : ∀ D σ H, t' D σ H → t D σ H) : PSs X st t' := ⟨fun pins s σ H D I q => h.run pins s σ H D I (i _ _ _ q)⟩

section
variable (G : Gx) (F : Fx) (W : WX)
def tM {α β : Type} (rep : List Addr → Hp → α → β → Prop) (m : En → Sto → R α) : L2.St → Hp → (β → Hp → Prop) → Prop := fun σ H Q =>
  ∃ (θ : List Addr) (st : Sto) (ρ : En), Rel G θ st H ∧ EnvR G F θ H ρ σ ∧ Res G rep W σ θ H (m ρ st) Q
end
section
variable (X : Cx) (TZ : Tabz) (F : Fx) (W : WX)
def RE (e : Expr) (m : C) : Prop := PE X e (tM (gx X TZ) F W (rV (gx X TZ)) m)
def RT (e : Expr) (m : En → Sto → R Bool) : Prop := PT X e (tM (gx X TZ) F W rB m)
def RW (e : Expr) (m : En → Sto → R Bool) : Prop := PW X e (tM (gx X TZ) F W rB m)
def RA (es : List Expr) (m : En → Sto → R (List D)) : Prop := PA X es (tM (gx X TZ) F W (rVs (gx X TZ)) m)
end
/-- a value and a store at once -/
def cVar (i : Nat) : C := fun ρ st => match ρ[i]? with
  | some (some d) => .ok d st
  | _ => .no
def cK (d : D) : C := fun _ st => .ok d st
section
variable {X : Cx} {TZ : Tabz} {F : Fx} {W : WX}
theorem re_var {i : Nat} {x : Str} {pos : Pos} (hN : X.N[i]? = some x) (hv : Vis X.env.scope x) (hd : (x == ("__debug__" : Str)) = false := by decide) (hcd : (x == ("__classdict__" : Str)) = false := by decide) : RE X TZ F W (.Name x pos) (cVar i) := by
  refine PE.imp (pe_var hN hv hd hcd) fun σ H Q h => ?_
  obtain ⟨θ, st, ρ, hR, hE, h⟩ := h
  unfold cVar at h
  cases e : ρ[i]? with
  | none => rw [e] at h; exact h.elim
  | some o =>
    cases o with
    | none => rw [e] at h; exact h.elim
    | some d =>
      rw [e] at h
      obtain ⟨v, e1, r⟩ := hE.has i d e
      exact ⟨v, e1, h.now hR r⟩
/-- a constant -/
theorem re_K {e : Expr} {v : V} {d : D} (h : PE X e (tC v)) (r : ∀ θ H, RepV X.K θ H d v) : RE X TZ F W e (cK d) := by
  refine PE.imp h fun σ H Q h => ?_
  obtain ⟨θ, st, ρ, hR, hE, h⟩ := h
  exact h.now hR (r θ H)
theorem re_int {i j pos} : RE X TZ F W (.Constant (.int i) j pos) (cK (.int i)) := re_K pe_int fun _ _ => rep_int.mpr rfl
theorem re_bl {b j pos} : RE X TZ F W (.Constant (.bool b) j pos) (cK (.bl b)) := re_K pe_bl fun _ _ => rep_bl.mpr rfl
theorem re_non {j pos} : RE X TZ F W (.Constant .none j pos) (cK .non) := re_K pe_non fun _ _ => rep_non.mpr rfl
theorem re_str {x j pos} : RE X TZ F W (.Constant (.str x) j pos) (cK (.str x)) := re_K pe_str fun _ _ => rep_str.mpr rfl
theorem re_gint {x : Str} {i : Int} {pos : Pos} (hg : Gl X x) (hm : ∃ t, X.mg x = some (.int i t)) (hdb : (x == ("__debug__" : Str)) = false := by decide) : RE X TZ F W (.Name x pos) (cK (.int i)) := by
  obtain ⟨t, hm⟩ := hm
  exact re_K (pe_glob (v := .int i) hg hm ⟨t, rfl⟩ hdb) fun _ _ => rep_int.mpr rfl
theorem re_gstr {x y : Str} {pos : Pos} (hg : Gl X x) (hm : ∃ t, X.mg x = some (.str y t)) (hdb : (x == ("__debug__" : Str)) = false := by decide) : RE X TZ F W (.Name x pos) (cK (.str y)) := by
  obtain ⟨t, hm⟩ := hm
  exact re_K (pe_glob (v := .str y) hg hm ⟨t, rfl⟩ hdb) fun _ _ => rep_str.mpr rfl

/-! ### operations on two values -/
/-- an operation on values, told by m -/
def rM (G : Gx) (m : D → D → Sto → Option (D × Sto)) : R2 := fun x y H Q => ∃ (θ : List Addr) (st : Sto) (d e : D), Rel G θ st H ∧ RepV G.K θ H d x ∧ RepV G.K θ H e y ∧
  ∃ r s', m d e st = some (r, s') ∧ ∀ (θ' : List Addr) (v : V) (H' : Hp), θ <+: θ' → Keep H H' → Rel G θ' s' H' → RepV G.K θ' H' r v → Q v H'
def cOp (m : D → D → Sto → Option (D × Sto)) (a b : C) : C := fun ρ st => (a ρ st).bind fun d s1 => (b ρ s1).bind fun e s2 => lift (m d e s2)
theorem res_lift {G : Gx} {α β : Type} {rep : List Addr → Hp → α → β → Prop} {σ : L2.St} {θ : List Addr} {H : Hp} {o : Option (α × Sto)} {Q : β → Hp → Prop} (h : Res G rep W σ θ H (lift o) Q) :
    ∃ a s', o = some (a, s') ∧ ∀ (θ' : List Addr) (b : β) (H' : Hp), θ <+: θ' → Keep H H' → Rel G θ' s' H' → rep θ' H' a b → Q b H' := by
  cases o with
  | none => exact h.elim
  | some p => exact ⟨p.1, p.2, rfl, h⟩
theorem re_op2 {e a b : Expr} {r : R2} {m : D → D → Sto → Option (D × Sto)} {ma mb : C} (he : ∀ ta tb, PE X a ta → PE X b tb → PE X e (tOp (rM (gx X TZ) m) ta tb)) (ha : RE X TZ F W a ma) (hb : RE X TZ F W b mb) : RE X TZ F W e (cOp m ma mb) := by
  refine PE.imp (he _ _ ha hb) fun σ H Q h => ?_
  obtain ⟨θ, st, ρ, hR, hE, h⟩ := h
  refine ⟨θ, st, ρ, hR, hE, h.seq fun θ1 d s1 x H1 p1 k1 R1 r1 h1 => ⟨θ1, s1, ρ, R1, hE.step p1 k1, h1.seq fun θ2 e2 s2 y H2 p2 k2 R2 r2 h2 => ?_⟩⟩
  obtain ⟨z, s3, ez, q⟩ := res_lift h2
  exact ⟨θ2, s2, d, e2, R2, r1.step p2 k2, r2, z, s3, ez, q⟩
theorem re_bin {a b : Expr} {op : Operator} {pos : Pos} {m : D → D → Sto → Option (D × Sto)} {ma mb : C} (ho : OpR X (binaryOp op) (rM (gx X TZ) m)) (ha : RE X TZ F W a ma) (hb : RE X TZ F W b mb) : RE X TZ F W (.BinOp a op b pos) (cOp m ma mb) :=
  re_op2 (r := rM (gx X TZ) m) (fun _ _ h1 h2 => pe_op ho h1 h2) ha hb
theorem re_cmp {a b : Expr} {op : CmpOp} {pos : Pos} {m : D → D → Sto → Option (D × Sto)} {ma mb : C} (ho : OpR X (compareOp op) (rM (gx X TZ) m)) (ha : RE X TZ F W a ma) (hb : RE X TZ F W b mb) (hm : behindInMarks op b = false) : RE X TZ F W (.Compare a [op] [b] pos) (cOp m ma mb) :=
  re_op2 (r := rM (gx X TZ) m) (fun _ _ h1 h2 => pe_cmpR ho h1 h2 hm) ha hb
theorem re_ix {a b : Expr} {pos : Pos} {m : D → D → Sto → Option (D × Sto)} {ma mb : C} (ho : IxR X (rM (gx X TZ) m)) (ha : RE X TZ F W a ma) (hb : RE X TZ F W b mb) (hs : PlainIx b) : RE X TZ F W (.Subscript a b pos) (cOp m ma mb) :=
  re_op2 (r := rM (gx X TZ) m) (fun _ _ h1 h2 => pe_ix ho h1 h2 hs) ha hb
/-- a new tuple -/
theorem fin_tup {G : Gx} {θ : List Addr} {st : Sto} {H : Hp} {ds : List D} {vs : List V} {Q : VK} (hR : Rel G θ st H) (r : RepVs G.K θ H ds vs)
    (q : ∀ (θ' : List Addr) (v : V) (H' : Hp), θ <+: θ' → Keep H H' → Rel G θ' st H' → RepV G.K θ' H' (.tup ds) v → Q v H') : NewT H vs Q := fun p o hp ho =>
  have k := Keep.same (same_new (o := .frz o (.tup vs)) hp)
  q θ _ _ (List.prefix_refl θ) k (hR.new hp) (rep_tup.mpr ⟨p, vs, rfl, .inl ⟨o, ho, upd_same⟩, r.step (List.prefix_refl θ) k⟩)
/-- a new list -/
theorem fin_lst {G : Gx} {θ : List Addr} {st : Sto} {H : Hp} {ds : List D} {vs : List V} {Q : VK} {p : Addr} (hR : Rel G θ st H) (r : RepVs G.K θ H ds vs) (hp : H p = none)
    (q : ∀ (θ' : List Addr) (v : V) (H' : Hp), θ <+: θ' → Keep H H' → Rel G θ' (st ++ [.lst ds]) H' → RepV G.K θ' H' (.ref st.length) v → Q v H') : Q (.ref p) (upd H p (.lst vs)) :=
  q _ _ _ (List.prefix_append _ _) (Keep.same (same_new hp)) (hR.push hp r) (rep_ref.mpr ⟨p, rfl, by rw [← hR.len]; simp⟩)
theorem Rel.lstOf {G : Gx} {θ : List Addr} {st : Sto} {H : Hp} (R : Rel G θ st H) {n : Nat} {xs : List D} {v : V} (hn : st[n]? = some (.lst xs)) (h : RepV G.K θ H (.ref n) v) : ∃ (a : Addr) (vs : List V), v = .ref a ∧ θ[n]? = some a ∧ H a = some (.lst vs) ∧ RepVs G.K θ H xs vs := by
  obtain ⟨a, e, z⟩ := rep_ref.mp h
  obtain ⟨a', vs, z', e', r⟩ := R.at hn
  rw [z] at z'
  cases z'
  exact ⟨a, vs, e, z, e', r⟩

/-! numbers, texts, tuples, lists by + -/
def addM : D → D → Sto → Option (D × Sto)
  | .int i, .int j, st => some (.int (i + j), st)
  | .str a, .str b, st => if a.length + b.length ≤ sizeLine then some (.str (a ++ b), st) else none
  | .tup a, .tup b, st => if a.length + b.length ≤ sizeLine then some (.tup (a ++ b), st) else none
  | .ref m, .ref n, st => match st[m]?, st[n]? with
    | some (.lst a), some (.lst b) => if a.length + b.length ≤ sizeLine then some (.ref st.length, st ++ [.lst (a ++ b)]) else none
    | _, _ => none
  | _, _, _ => none
theorem op_addM : OpR X (binaryOp .Add) (rM (gx X TZ) addM) := by
  intro pins s σ H x y v u Q I rx ry h
  obtain ⟨θ, st, d, e, hR, hd, he, r, s', hr, q⟩ := h
  unfold addM at hr
  split at hr
  · cases hr
    cases rep_int.mp hd
    cases rep_int.mp he
    exact op_add pins s σ H _ _ v u Q I rx ry ⟨_, _, rfl, rfl, q θ _ H (List.prefix_refl θ) (Keep.refl H) hR (rep_int.mpr rfl)⟩
  · split at hr
    · rename_i hl
      cases hr
      cases rep_str.mp hd
      cases rep_str.mp he
      exact op_add_str pins s σ H _ _ v u Q I rx ry ⟨_, _, rfl, rfl, hl, q θ _ H (List.prefix_refl θ) (Keep.refl H) hR (rep_str.mpr rfl)⟩
    · cases hr
  · split at hr
    · rename_i a b hl
      cases hr
      obtain ⟨p, vs, rfl, s1, r1⟩ := rep_tup.mp hd
      obtain ⟨p', ws, rfl, s2, r2⟩ := rep_tup.mp he
      have l1 := r1.length
      have l2 := r2.length
      refine op_catF pins s σ H _ _ v u Q I rx ry ⟨p, p', vs, ws, rfl, rfl, s1.sq, s2.sq, by omega, fun z => ?_, fun z1 z2 => ?_, fun z1 z2 => ?_⟩
      · subst z
        have e0 : a = [] := List.eq_nil_of_length_eq_zero (by simpa using l1)
        subst e0
        exact q θ _ H (List.prefix_refl θ) (Keep.refl H) hR (rep_tup.mpr ⟨p', ws, rfl, s2, r2⟩)
      · subst z2
        have e0 : b = [] := List.eq_nil_of_length_eq_zero (by simpa using l2)
        subst e0
        rw [List.append_nil] at q
        exact q θ _ H (List.prefix_refl θ) (Keep.refl H) hR (rep_tup.mpr ⟨p, vs, rfl, s1, r1⟩)
      · exact fin_tup hR (r1.append r2) q
    · cases hr
  · split at hr
    · rename_i a b h1 h2
      split at hr
      · rename_i hl
        cases hr
        obtain ⟨p, vs, rfl, _, e1, r1⟩ := hR.lstOf h1 hd
        obtain ⟨p', ws, rfl, _, e2, r2⟩ := hR.lstOf h2 he
        have l1 := r1.length
        have l2 := r2.length
        exact op_cat pins s σ H _ _ v u Q I rx ry ⟨p, p', vs, ws, rfl, rfl, e1, e2, by omega, fun t ht => fin_lst hR (r1.append r2) ht q⟩
      · cases hr
    · cases hr
  · cases hr
/-- an operation on ints -/
def intM (c : Int → Int → Bool) (f : Int → Int → D) : D → D → Sto → Option (D × Sto)
  | .int i, .int j, st => if c i j = true then some (f i j, st) else none
  | _, _, _ => none
theorem op_intM {f : Value → Value → Sem Value} {c : Int → Int → Bool} {Cc : Int → Int → Prop} {g : Int → Int → D} {gv : Int → Int → V} (ho : OpR X f (rI Cc gv)) (hc : ∀ i j, c i j = true → Cc i j) (hg : ∀ i j θ H, RepV X.K θ H (g i j) (gv i j)) : OpR X f (rM (gx X TZ) (intM c g)) := by
  intro pins s σ H x y v u Q I rx ry h
  obtain ⟨θ, st, d, e, hR, hd, he, r, s', hr, q⟩ := h
  unfold intM at hr
  split at hr
  · split at hr
    · rename_i z
      cases hr
      cases rep_int.mp hd
      cases rep_int.mp he
      exact ho pins s σ H _ _ v u Q I rx ry ⟨_, _, rfl, rfl, hc _ _ z, q θ _ H (List.prefix_refl θ) (Keep.refl H) hR (hg _ _ _ _)⟩
    · cases hr
  · cases hr
theorem op_intM0 {f : Value → Value → Sem Value} {g : Int → Int → D} {gv : Int → Int → V} (ho : OpR X f (rI0 gv)) (hg : ∀ i j θ H, RepV X.K θ H (g i j) (gv i j)) : OpR X f (rM (gx X TZ) (intM (fun _ _ => true) g)) := by
  refine op_intM (Cc := fun _ _ => True) (gv := gv) ?_ (fun _ _ _ => trivial) hg
  intro pins s σ H x y v u Q I rx ry h
  obtain ⟨i, j, e1, e2, _, q⟩ := h
  exact ho pins s σ H x y v u Q I rx ry ⟨i, j, e1, e2, q⟩
def subM := intM (fun _ _ => true) fun i j => .int (i - j)
theorem op_subM : OpR X (binaryOp .Sub) (rM (gx X TZ) subM) := op_intM0 op_sub fun _ _ _ _ => rep_int.mpr rfl
def modM := intM (fun _ j => decide (0 < j)) fun i j => .int (i % j)
theorem op_modM : OpR X (binaryOp .Mod) (rM (gx X TZ) modM) := op_intM op_mod (fun _ _ h => of_decide_eq_true h) fun _ _ _ _ => rep_int.mpr rfl
def small64b (i : Int) : Bool := decide (-18446744073709551616 < i) && decide (i < 18446744073709551616)
def divM := intM (fun _ j => decide (0 < j) && decide (j < 18446744073709551616)) fun i j => .int (i / j)
theorem op_divM : OpR X (binaryOp .FloorDiv) (rM (gx X TZ) divM) := op_intM op_fdivW (fun i j h => by
  rw [Bool.and_eq_true, decide_eq_true_eq, decide_eq_true_eq] at h
  exact dvW h.1 h.2) fun _ _ _ _ => rep_int.mpr rfl
theorem small64_iff {i : Int} : small64b i = true ↔ -18446744073709551616 < i ∧ i < 18446744073709551616 := by
  unfold small64b
  rw [Bool.and_eq_true, decide_eq_true_eq, decide_eq_true_eq]
/-- ints by ints, tuples and lists by ints -/
def mulM : D → D → Sto → Option (D × Sto)
  | .int i, .int j, st => if (small64b i || small64b j) = true then some (.int (i * j), st) else none
  | .tup a, .int k, st => if a.length ≠ 0 ∧ a.length ≤ 1000 ∧ -1000 ≤ k ∧ k ≤ 2000 then some (.tup (List.replicate k.toNat a).flatten, st) else none
  | .ref m, .int k, st => match st[m]? with
    | some (.lst a) => if -(2 ^ 63) ≤ k ∧ k < 2 ^ 63 ∧ a.length * k.toNat ≤ sizeLine then some (.ref st.length, st ++ [.lst (List.replicate k.toNat a).flatten]) else none
    | _ => none
  | _, _, _ => none
def ltM := intM (fun _ _ => true) fun i j => .bl (decide (i < j))
def leM := intM (fun _ _ => true) fun i j => .bl (decide (i ≤ j))
def gtM := intM (fun _ _ => true) fun i j => .bl (decide (j < i))
def geM := intM (fun _ _ => true) fun i j => .bl (decide (j ≤ i))
theorem op_ltM : OpR X (compareOp .Lt) (rM (gx X TZ) ltM) := op_intM0 op_lt fun _ _ _ _ => rep_bl.mpr rfl
theorem op_leM : OpR X (compareOp .LtE) (rM (gx X TZ) leM) := op_intM0 op_le fun _ _ _ _ => rep_bl.mpr rfl
theorem op_gtM : OpR X (compareOp .Gt) (rM (gx X TZ) gtM) := op_intM0 op_gt fun _ _ _ _ => rep_bl.mpr rfl
theorem op_geM : OpR X (compareOp .GtE) (rM (gx X TZ) geM) := op_intM0 op_ge fun _ _ _ _ => rep_bl.mpr rfl
end
end Rg

/-! t * k for any k; equality; in; subscripts; slices -/
namespace Rg
open PySem PySem.Spec PyProof.Rows L2 Fs HT
theorem tuple_mul0 (l : Addr) (items : Array Value) (n : Nat) (dd : Option Addr) (sl : Array (Option Value)) (x : Int) (u : Tok) (hx : x ≤ 0) (hlo : -(2 ^ 63) ≤ x) (he : items.isEmpty = false) :
    Meets (Builtin.«tuple.__mul__» ⟨[.ref l, .int x u], []⟩) (fun _ R s => s.heap.get? l = some { cls := .type "tuple", dict := dd, data := .seq items n, slots := sl } ∧
      R (.ok (.ret (Value.ref s.heap.objs.size))) { s with heap := s.heap.push { cls := Value.type "tuple", data := Data.seq #[] } }) :=
  .of_wp fun prog w A R s h => by
    obtain ⟨hp, g, d, tk, os⟩ := s
    obtain ⟨hl, h⟩ := h
    have f1 := AutoSeq1.idx_int
    have h1 : (decide (x < -(2 ^ 63)) || decide (x ≥ 2 ^ 63)) = false := by
      rw [decide_eq_false (by omega), decide_eq_false (by omega)]
      rfl
    have h2 : (items.isEmpty || x == 1) = false := by
      rw [he, Bool.false_or]
      simp
      omega
    wp_walk using wpAny_loadPart' hl
    repeat (first
      | (refine wpAny_ite_false (decide_eq_false (fun z => by rw [h1] at z; cases z)) ?_; wp_walk using wpAny_loadPart' hl)
      | (refine wpAny_ite_false (decide_eq_false (fun z => by rw [h2] at z; cases z)) ?_; wp_walk using wpAny_loadPart' hl)
      | (refine wpAny_ite_true (decide_eq_true (by rw [decide_eq_true hx]; rfl)) ?_; wp_walk using wpAny_loadPart' hl))
    exact ⟨_, rfl, h⟩
section
variable {X : Cx} {TZ : Tabz} {F : Fx} {W : WX}
def rRepZ (K : PySem.W.Frag) : R2 := fun x y H Q => ∃ l k xs, x = .ref l ∧ y = .int k ∧ SqT K H l xs ∧ xs ≠ [] ∧ -(2 ^ 63) ≤ k ∧ k ≤ 0 ∧ NewT H [] Q
theorem op_repZ : OpR X (binaryOp .Mult) (rRepZ X.K) := by
  intro pins s σ H x y v u Q I rx ry h
  obtain ⟨l, k, xs, rfl, rfl, hT, hne, h1, h2, q⟩ := h
  cases rx
  obtain ⟨t, rfl⟩ := ry
  obtain ⟨its, r, ⟨⟨cls, dd, data, sl⟩, ho, hc, n, hd⟩, hs⟩ := I.tuple hT
  simp only at hc hd
  subst hc hd
  have hz : its.toArray.isEmpty = false := by
    cases r with
    | nil => exact absurd rfl hne
    | cons a b => simp
  refine wpAny_binaryOp_repeat_ref (T := "tuple") (U := "int") (by decide) ⟨_, ho, rfl⟩ (fun s' => typeIs_int s' k t) noFill_tuple_mul F.fills_int_mul F.slot_int_rmul repeat_tuple F.slot_int_index.lookup ?_
  refine call_meets F.slot_int_rmul (typeIs_int s k t) F.entry_int_rmul (F.args_int_rmul_2 _ _) (int_rmul_tuple k t l its.toArray n dd sl) ⟨ho, rfl, ⟨_, ho, rfl⟩, ?_⟩
  refine call_meets F.slot_tuple_mul ⟨_, ho, rfl⟩ F.entry_tuple_mul (F.args_tuple_mul_2 _ _) (tuple_mul0 l its.toArray n dd sl k t h2 h1 hz) ⟨ho, ?_⟩
  exact newT_laid (us := []) I .nil (Nat.zero_le _) q
def rRepF (K : PySem.W.Frag) : R2 := fun x y H Q => ∃ l k xs, x = .ref l ∧ y = .int k ∧ SqT K H l xs ∧ xs ≠ [] ∧ 2 ≤ k ∧ k ≤ 2000 ∧ xs.length ≤ 1000 ∧ NewT H (List.replicate k.toNat xs).flatten Q
theorem vals_rep {xs : List V} {us : List Value} (r : Vals xs us) : ∀ n : Nat, Vals (List.replicate n xs).flatten (List.replicate n us).flatten
  | 0 => .nil
  | n + 1 => by
    rw [List.replicate_succ, List.replicate_succ, List.flatten_cons, List.flatten_cons]
    exact r.append (vals_rep r n)
theorem op_repF : OpR X (binaryOp .Mult) (rRepF X.K) := by
  intro pins s σ H x y v u Q I rx ry ⟨l, k, xs, e1, e2, hT, hne, h1, h2, hz, q⟩
  subst e1 e2
  cases rx
  obtain ⟨t, rfl⟩ := ry
  obtain ⟨its, r, ⟨⟨cls, dd, data, sl⟩, ho, hc, n, hd⟩, _⟩ := I.tuple hT
  simp only at hc hd
  subst hc hd
  have hl : its.toArray.size = xs.length := by rw [List.size_toArray]; exact r.length.symm
  have hi : its.toArray.isEmpty = false := by
    cases r with
    | nil => exact absurd rfl hne
    | cons a b => simp
  have hm : ((its.toArray.size : Nat) : Int) * k ≤ 1000 * 2000 := by
    rw [hl]
    exact Int.mul_le_mul (by omega) h2 (by omega) (by omega)
  have hs : (List.replicate k.toNat xs).flatten.length ≤ sizeLine := by
    rw [lm_len_rep_flat, sizeLine_eq]
    have := Nat.mul_le_mul (show k.toNat ≤ 2000 by omega) hz
    omega
  have rr := vals_rep r k.toNat
  have w := tuple_mulW l its.toArray n dd sl k t (by
    rw [Bool.or_eq_false_iff]
    exact ⟨decide_eq_false (by omega), decide_eq_false (by omega)⟩) (by
    rw [hi, Bool.false_or]
    simp
    omega) (by
    rw [hi, Bool.or_false]
    exact decide_eq_false (by omega)) (by omega) (by
    unfold Builtin.Tuple.tupleTooMany
    rw [sizeLine_eq]
    exact decide_eq_false (by omega)) (by
    rw [size_rep, List.size_toArray, ← rr.length]
    exact hs)
  refine wpAny_binaryOp_repeat_ref (T := "tuple") (U := "int") (by decide) ⟨_, ho, rfl⟩ (fun s' => typeIs_int s' k t) noFill_tuple_mul F.fills_int_mul F.slot_int_rmul repeat_tuple F.slot_int_index.lookup ?_
  refine call_meets F.slot_int_rmul (typeIs_int s k t) F.entry_int_rmul (F.args_int_rmul_2 _ _) (int_rmul_tuple k t l its.toArray n dd sl) ⟨ho, rfl, ⟨_, ho, rfl⟩, ?_⟩
  refine call_meets F.slot_tuple_mul ⟨_, ho, rfl⟩ F.entry_tuple_mul (F.args_tuple_mul_2 _ _) w ⟨ho, ?_⟩
  rw [size_rep]
  exact newT_laid I rr hs q
theorem rep_zero {α : Type} {k : Int} {a : List α} (h : k ≤ 0) : (List.replicate k.toNat a).flatten = [] := by
  rw [show k.toNat = 0 by omega]
  rfl
theorem rep_one {α : Type} {a : List α} : (List.replicate (1 : Int).toNat a).flatten = a := by simp
theorem op_mulM : OpR X (binaryOp .Mult) (rM (gx X TZ) mulM) := by
  intro pins s σ H x y v u Q I rx ry h
  obtain ⟨θ, st, d, e, hR, hd, he, r, s', hr, q⟩ := h
  unfold mulM at hr
  split at hr
  · split at hr
    · rename_i i j z
      cases hr
      cases rep_int.mp hd
      cases rep_int.mp he
      refine op_mulB pins s σ H _ _ v u Q I rx ry ⟨_, _, rfl, rfl, ?_, q θ _ H (List.prefix_refl θ) (Keep.refl H) hR (rep_int.mpr rfl)⟩
      rw [Bool.or_eq_true, small64_iff, small64_iff] at z
      rcases z with z | z
      · exact mulL z.1 z.2
      · exact mulR z.1 z.2
    · cases hr
  · rename_i a k
    split at hr
    · rename_i hl
      cases hr
      cases rep_int.mp he
      obtain ⟨p, vs, rfl, s1, r1⟩ := rep_tup.mp hd
      have l1 := r1.length
      have hv : vs ≠ [] := fun z => by
        subst z
        simp at l1
        exact hl.1 (by rw [l1]; rfl)
      by_cases k0 : k ≤ 0
      · refine op_repZ pins s σ H _ _ v u Q I rx ry ⟨p, k, vs, rfl, rfl, s1.sq, hv, by omega, k0, ?_⟩
        rw [rep_zero k0] at q
        exact fin_tup hR .nil_iff q
      · by_cases k1 : k = 1
        · subst k1
          refine op_repA pins s σ H _ _ v u Q I rx ry ⟨p, 1, vs, rfl, rfl, s1.sq, hv, by omega, by omega, by omega, fun _ => ?_, fun z => absurd rfl z⟩
          rw [rep_one] at q
          exact q θ _ H (List.prefix_refl θ) (Keep.refl H) hR (rep_tup.mpr ⟨p, vs, rfl, s1, r1⟩)
        · exact op_repF pins s σ H _ _ v u Q I rx ry ⟨p, k, vs, rfl, rfl, s1.sq, hv, by omega, hl.2.2.2, by omega, fin_tup hR (r1.rep _) q⟩
    · cases hr
  · rename_i m k
    split at hr
    · rename_i a ha
      split at hr
      · rename_i hl
        cases hr
        cases rep_int.mp he
        obtain ⟨p, vs, rfl, _, e1, r1⟩ := hR.lstOf ha hd
        have l1 := r1.length
        exact op_rep pins s σ H _ _ v u Q I rx ry ⟨p, k, vs, rfl, rfl, e1, hl.1, hl.2.1, by rw [← l1]; exact hl.2.2, fun t ht => fin_lst hR (r1.rep _) ht q⟩
      · cases hr
    · cases hr
  · cases hr

/-! ### None -/
def isNM : D → D → Sto → Option (D × Sto)
  | .non, .non, st => some (.bl true, st)
  | .bl _, .non, st | .int _, .non, st | .str _, .non, st | .tup _, .non, st | .ref _, .non, st => some (.bl false, st)
  | _, _, _ => none
def notNM : D → D → Sto → Option (D × Sto)
  | .non, .non, st => some (.bl false, st)
  | .bl _, .non, st | .int _, .non, st | .str _, .non, st | .tup _, .non, st | .ref _, .non, st => some (.bl true, st)
  | _, _, _ => none
theorem op_isNM : OpR X (compareOp .Is) (rM (gx X TZ) isNM) := by
  intro pins s σ H x y v u Q I rx ry h
  obtain ⟨θ, st, d, e, hR, hd, he, r, s', hr, q⟩ := h
  have go : ∀ b : Bool, (decide (x = .non)) = b → r = .bl b → s' = st → e = .non → wpAny (model X.prog X.w) X.A (compareOp .Is v u) (EP X pins σ Q) X.xe s := fun b hb e1 e2 e3 => by
    subst e1 e2 e3
    exact op_isN pins s σ H _ _ v u Q I rx ry ⟨rep_non.mp he, by rw [hb]; exact q θ _ H (List.prefix_refl θ) (Keep.refl H) hR (rep_bl.mpr rfl)⟩
  unfold isNM at hr
  split at hr
  · cases hr; cases rep_non.mp hd; exact go true rfl rfl rfl rfl
  · cases hr; cases rep_bl.mp hd; exact go false rfl rfl rfl rfl
  · cases hr; cases rep_int.mp hd; exact go false rfl rfl rfl rfl
  · cases hr; cases rep_str.mp hd; exact go false rfl rfl rfl rfl
  · cases hr; obtain ⟨a, vs, rfl, _⟩ := rep_tupE hd; exact go false rfl rfl rfl rfl
  · cases hr; obtain ⟨a, rfl, _⟩ := rep_ref.mp hd; exact go false rfl rfl rfl rfl
  · cases hr
theorem op_notNM : OpR X (compareOp .IsNot) (rM (gx X TZ) notNM) := by
  intro pins s σ H x y v u Q I rx ry h
  obtain ⟨θ, st, d, e, hR, hd, he, r, s', hr, q⟩ := h
  have go : ∀ b : Bool, (!decide (x = .non)) = b → r = .bl b → s' = st → e = .non → wpAny (model X.prog X.w) X.A (compareOp .IsNot v u) (EP X pins σ Q) X.xe s := fun b hb e1 e2 e3 => by
    subst e1 e2 e3
    exact op_notN pins s σ H _ _ v u Q I rx ry ⟨rep_non.mp he, by rw [hb]; exact q θ _ H (List.prefix_refl θ) (Keep.refl H) hR (rep_bl.mpr rfl)⟩
  unfold notNM at hr
  split at hr
  · cases hr; cases rep_non.mp hd; exact go false rfl rfl rfl rfl
  · cases hr; cases rep_bl.mp hd; exact go true rfl rfl rfl rfl
  · cases hr; cases rep_int.mp hd; exact go true rfl rfl rfl rfl
  · cases hr; cases rep_str.mp hd; exact go true rfl rfl rfl rfl
  · cases hr; obtain ⟨a, vs, rfl, _⟩ := rep_tupE hd; exact go true rfl rfl rfl rfl
  · cases hr; obtain ⟨a, rfl, _⟩ := rep_ref.mp hd; exact go true rfl rfl rfl rfl
  · cases hr

/-! ### equality of data -/
def allPy (f : D → Option PyData) : List D → Option (List PyData)
  | [] => some []
  | d :: r => match f d, allPy f r with
    | some a, some b => some (a :: b)
    | _, _ => none
def toPy (st : Sto) : Nat → D → Option PyData
  | 0, _ => none
  | _ + 1, .non => some .none
  | _ + 1, .bl b => some (.bool b)
  | _ + 1, .int i => some (.int i)
  | _ + 1, .str s => some (.str s)
  | n + 1, .tup xs => (allPy (toPy st n) xs).map .tuple
  | n + 1, .ref k => match st[k]? with
    | some (.lst xs) => (allPy (toPy st n) xs).map .list
    | _ => none
  | _ + 1, .fl _ => none
  | _ + 1, .wt _ => none
theorem allPy_rep {K : PySem.W.Frag} {θ : List Addr} {H : Hp} {f : D → Option PyData} (hf : ∀ d p v, f d = some p → RepV K θ H d v → Dp K H v p) : ∀ (ds : List D) (ps : List PyData) (vs : List V), allPy f ds = some ps → RepVs K θ H ds vs → DpAll K H vs ps
  | [], ps, vs, e, r => by
    unfold allPy at e
    unfold RepVs at r
    cases e
    subst r
    exact .nil
  | d :: ds, ps, vs, e, r => by
    unfold allPy at e
    unfold RepVs at r
    obtain ⟨v, w, rfl, r1, r2⟩ := r
    split at e
    · rename_i a b ha hb
      cases e
      exact .cons (hf _ _ _ ha r1) (allPy_rep hf ds _ _ hb r2)
    · cases e
theorem toPy_rep {G : Gx} {θ : List Addr} {st : Sto} {H : Hp} (R : Rel G θ st H) : ∀ (n : Nat) (d : D) (p : PyData) (v : V), toPy st n d = some p → RepV G.K θ H d v → Dp G.K H v p
  | 0, d, p, v, e, r => by unfold toPy at e; cases e
  | n + 1, d, p, v, e, r => by
    cases d with
    | non => unfold toPy at e; cases e; cases rep_non.mp r; exact .non
    | bl b => unfold toPy at e; cases e; cases rep_bl.mp r; exact .bl b
    | int i => unfold toPy at e; cases e; cases rep_int.mp r; exact .int i
    | str s => unfold toPy at e; cases e; cases rep_str.mp r; exact .str s
    | tup xs =>
      unfold toPy at e
      obtain ⟨ps, hp, rfl⟩ := Option.map_eq_some_iff.mp e
      obtain ⟨a, vs, rfl, s1, r1⟩ := rep_tupE r
      exact .tup s1 (allPy_rep (toPy_rep R n) xs ps vs hp r1)
    | ref k =>
      unfold toPy at e
      split at e
      · rename_i xs hx
        obtain ⟨ps, hp, rfl⟩ := Option.map_eq_some_iff.mp e
        obtain ⟨a, vs, rfl, _, e1, r1⟩ := R.lstOf hx r
        exact .lst (SqL.of e1) (allPy_rep (toPy_rep R n) xs ps vs hp r1)
      · cases e
    | fl xs => unfold toPy at e; cases e
    | wt xs => unfold toPy at e; cases e
def eqB (d e : D) (st : Sto) : Option Bool := match toPy st 20 d, toPy st 20 e with
  | some a, some b => if (SeqAt.shaped a && SeqAt.shaped b) = true then some (PyData.eqv a b) else none
  | _, _ => none
def eqM (d e : D) (st : Sto) : Option (D × Sto) := (eqB d e st).map fun b => (.bl b, st)
def neM (d e : D) (st : Sto) : Option (D × Sto) := (eqB d e st).map fun b => (.bl (!b), st)
theorem eqB_rep {G : Gx} {θ : List Addr} {st : Sto} {H : Hp} {d e : D} {x y : V} {b : Bool} (R : Rel G θ st H) (hd : RepV G.K θ H d x) (he : RepV G.K θ H e y) (h : eqB d e st = some b) :
    ∃ a c, Dp G.K H x a ∧ Dp G.K H y c ∧ SeqAt.shaped a = true ∧ SeqAt.shaped c = true ∧ PyData.eqv a c = b := by
  unfold eqB at h
  split at h
  · rename_i a c ha hc
    split at h
    · rename_i z
      rw [Bool.and_eq_true] at z
      cases h
      exact ⟨a, c, toPy_rep R _ _ _ _ ha hd, toPy_rep R _ _ _ _ hc he, z.1, z.2, rfl⟩
    · cases h
  · cases h
theorem op_eqM (hu : X.A.units + 64 < cLine) : OpR X (compareOp .Eq) (rM (gx X TZ) eqM) := by
  intro pins s σ H x y v u Q I rx ry h
  obtain ⟨θ, st, d, e, hR, hd, he, r, s', hr, q⟩ := h
  obtain ⟨b, hb, hz⟩ := Option.map_eq_some_iff.mp hr
  cases hz
  obtain ⟨a, c, h1, h2, h3, h4, rfl⟩ := eqB_rep hR hd he hb
  exact op_eqD hu pins s σ H _ _ v u Q I rx ry ⟨a, c, h1, h2, h3, h4, q θ _ H (List.prefix_refl θ) (Keep.refl H) hR (rep_bl.mpr rfl)⟩
theorem op_neM (hu : X.A.units + 64 < cLine) : OpR X (compareOp .NotEq) (rM (gx X TZ) neM) := by
  intro pins s σ H x y v u Q I rx ry h
  obtain ⟨θ, st, d, e, hR, hd, he, r, s', hr, q⟩ := h
  obtain ⟨b, hb, hz⟩ := Option.map_eq_some_iff.mp hr
  cases hz
  obtain ⟨a, c, h1, h2, h3, h4, rfl⟩ := eqB_rep hR hd he hb
  exact op_neD hu pins s σ H _ _ v u Q I rx ry ⟨a, c, h1, h2, h3, h4, q θ _ H (List.prefix_refl θ) (Keep.refl H) hR (rep_bl.mpr rfl)⟩

/-! ### subscripts -/
def ixM : D → D → Sto → Option (D × Sto)
  | .tup xs, .int i, st => (atI xs i).map fun d => (d, st)
  | .ref n, .int i, st => match st[n]? with
    | some (.lst xs) => (atI xs i).map fun d => (d, st)
    | _ => none
  | .fl xs, .int i, st => (atI xs i).map fun d => (d, st)
  | .str z, .int i, st => if z.length ≤ sizeLine then (atI z.cps.toList i).map fun c => (.str ⟨#[c]⟩, st) else none
  | _, _, _ => none
theorem RepVs.atI {K : PySem.W.Frag} {θ : List Addr} {H : Hp} {ds : List D} {vs : List V} {i : Int} {d : D} (r : RepVs K θ H ds vs) (h : atI ds i = some d) : ∃ v, atI vs i = some v ∧ RepV K θ H d v := by
  unfold L2.atI at h ⊢
  rw [r.length] at h
  cases e : ixN vs.length i with
  | none => rw [e] at h; cases h
  | some j => rw [e] at h; exact r.get h
theorem ix_M : IxR X (rM (gx X TZ) ixM) := by
  intro value slice pins s σ H x y v u Q I rx ry h hs
  obtain ⟨θ, st, d, e, hR, hd, he, r, s', hr, q⟩ := h
  unfold ixM at hr
  split at hr
  · obtain ⟨z, hz, ez⟩ := Option.map_eq_some_iff.mp hr
    cases ez
    cases rep_int.mp he
    obtain ⟨p, vs, rfl, s1, r1⟩ := rep_tupE hd
    obtain ⟨w, hw, rw⟩ := RepVs.atI r1 hz
    exact ix_tup value slice pins s σ H _ _ v u Q I rx ry ⟨p, vs, _, w, rfl, rfl, s1, hw, q θ _ H (List.prefix_refl θ) (Keep.refl H) hR rw⟩ hs
  · split at hr
    · rename_i xs hx
      obtain ⟨z, hz, ez⟩ := Option.map_eq_some_iff.mp hr
      cases ez
      cases rep_int.mp he
      obtain ⟨p, vs, rfl, _, e1, r1⟩ := hR.lstOf hx hd
      obtain ⟨w, hw, rw⟩ := RepVs.atI r1 hz
      exact ix_list value slice pins s σ H _ _ v u Q I rx ry ⟨p, vs, _, w, rfl, rfl, SqL.of e1, hw, q θ _ H (List.prefix_refl θ) (Keep.refl H) hR rw⟩ hs
    · cases hr
  · obtain ⟨z, hz, ez⟩ := Option.map_eq_some_iff.mp hr
    cases ez
    cases rep_int.mp he
    obtain ⟨p, vs, rfl, s1, r1⟩ := rep_fl.mp hd
    obtain ⟨w, hw, rw⟩ := RepVs.atI r1 hz
    exact ix_list value slice pins s σ H _ _ v u Q I rx ry ⟨p, vs, _, w, rfl, rfl, s1.sq, hw, q θ _ H (List.prefix_refl θ) (Keep.refl H) hR rw⟩ hs
  · split at hr
    · rename_i hl
      obtain ⟨c, hc, ez⟩ := Option.map_eq_some_iff.mp hr
      cases ez
      cases rep_int.mp he
      cases rep_str.mp hd
      exact ix_str value slice pins s σ H _ _ v u Q I rx ry ⟨_, _, c, rfl, rfl, hl, hc, q θ _ H (List.prefix_refl θ) (Keep.refl H) hR (rep_str.mpr rfl)⟩ hs
    · cases hr
  · cases hr
end
end Rg

/-! tests, argument lists, displays, calls -/
namespace Rg
open PySem PySem.Spec PyProof.Rows L2 Fs
def truM (d : D) (st : Sto) : Option (Bool × Sto) := match d with
  | .non => some (false, st)
  | .bl b => some (b, st)
  | .int i => some (i != 0, st)
  | .str y => if y.length ≤ sizeLine then some ((y.length : Int) != 0, st) else none
  | .tup xs => some (!xs.isEmpty, st)
  | .ref n => match st[n]? with
    | some (.lst xs) => some (!xs.isEmpty, st)
    | _ => none
  | .fl _ => none
  | .wt _ => none
abbrev B := En → Sto → R Bool
def bVal (m : C) : B := fun ρ st => (m ρ st).bind fun d s => match d with
  | .bl b => .ok b s
  | _ => .no
def bTru (m : C) : B := fun ρ st => (m ρ st).bind fun d s => lift (truM d s)
def bAnd (a b : B) : B := fun ρ st => (a ρ st).bind fun x s => if x = true then b ρ s else .ok false s
def bOr (a b : B) : B := fun ρ st => (a ρ st).bind fun x s => if x = true then .ok true s else b ρ s
def bNot (a : B) : B := fun ρ st => (a ρ st).bind fun x s => .ok (!x) s
def cAnd (a b : C) : C := fun ρ st => (a ρ st).bind fun d s => match d with
  | .bl true => b ρ s
  | .bl false => .ok (.bl false) s
  | _ => .no
def cOr (a b : C) : C := fun ρ st => (a ρ st).bind fun d s => match d with
  | .bl true => .ok (.bl true) s
  | .bl false => b ρ s
  | _ => .no
def cNot (a : C) : C := fun ρ st => (a ρ st).bind fun d s => match d with
  | .bl x => .ok (.bl (!x)) s
  | _ => .no
/-- not of anything, by its truth -/
def cNotT (a : C) : C := fun ρ st => (a ρ st).bind fun d s => (lift (truM d s)).bind fun x s2 => .ok (.bl (!x)) s2
def cIf (t : B) (a b : C) : C := fun ρ st => (t ρ st).bind fun x s => if x = true then a ρ s else b ρ s
def cNeg (a : C) : C := fun ρ st => (a ρ st).bind fun d s => match d with
  | .int i => .ok (.int (-i)) s
  | _ => .no
def cChain (m n : D → D → Sto → Option (D × Sto)) (a b c : C) : C := fun ρ st => (a ρ st).bind fun x s1 => (b ρ s1).bind fun y s2 => (lift (m x y s2)).bind fun z s3 => match z with
  | .bl true => (c ρ s3).bind fun w s4 => lift (n y w s4)
  | .bl false => .ok (.bl false) s3
  | _ => .no
abbrev AL := En → Sto → R (List D)
def aNil : AL := fun _ st => .ok [] st
def aCons (a : C) (r : AL) : AL := fun ρ st => (a ρ st).bind fun x s => (r ρ s).bind fun xs s2 => .ok (x :: xs) s2
def cTup (r : AL) : C := fun ρ st => (r ρ st).bind fun xs s => if xs.length ≤ sizeLine then .ok (.tup xs) s else .no
def cLst (r : AL) : C := fun ρ st => (r ρ st).bind fun xs s => if xs.length ≤ sizeLine then .ok (.ref s.length) (s ++ [.lst xs]) else .no
def cBi (m : List D → Sto → Option (D × Sto)) (r : AL) : C := fun ρ st => (r ρ st).bind fun xs s => lift (m xs s)

/-- arguments: plain ones, and functions where the mask says so -/
def ArgsR (G : Gx) (k : Nat) (s : Shared) (H : Hp) (θ : List Addr) : List Bool → List Clo → List D → List V → Prop
  | [], fs, ds, vs => fs = [] ∧ ds = [] ∧ vs = []
  | false :: m, fs, ds, vs => ∃ d ds' v vs', ds = d :: ds' ∧ vs = v :: vs' ∧ RepV G.K θ H d v ∧ ArgsR G k s H θ m fs ds' vs'
  | true :: m, fs, ds, vs => ∃ (φ : Clo) (fs' : List Clo) (a : Addr) (vs' : List V), fs = φ :: fs' ∧ vs = .ref a :: vs' ∧ CallsM G k s H θ a φ ∧ ArgsR G k s H θ m fs' ds vs'
def spS (G : Gx) (kc : Nat) (mask : List Bool) (M : List Clo → Clo) : Shared → List V → Hp → VK → XK → Prop := fun s vs H Q E => ∃ (θ : List Addr) (st : Sto) (fs : List Clo) (ds : List D), Rel G θ st H ∧ ArgsR G kc s H θ mask fs ds vs ∧
  Res G (rV G) (fun c d _ H => E c d H) [] θ H (M fs ds st) Q
/-- a def does what M says; k: how deep it calls, kc: how deep the functions that it is handed may call -/
structure FnM (G : Gx) (x : Str) (k kc : Nat) (mask : List Bool) (M : List Clo → Clo) : Prop where
  ex : ∃ f : Addr, G.mg x = some (.ref f) ∧ PySem.W.keepIn G.K (.ref f) = true ∧ (∀ h, G.K.In h → PySem.W.FnAt f h) ∧
    ∀ (A : Around) (outer : List Env) (s : Shared) (H : Hp) (us : List Value) (vs : List V) (Q : VK) (E : XK), Room k A → Env0 G.P G.w G.K G.mg G.base A outer s H → Vals vs us → spS G kc mask M s vs H Q E →
      codeAny (model G.P G.w) A (.call (.ref f) ⟨us, []⟩) (CR (L2.CX G.P G.w) outer G.P G.w H s Q E) s
theorem argsR_plain {G : Gx} {k : Nat} {s : Shared} {H : Hp} {θ : List Addr} : ∀ {n : Nat} {ds : List D} {vs : List V}, ds.length = n → RepVs G.K θ H ds vs → ArgsR G k s H θ (List.replicate n false) [] ds vs
  | 0, [], vs, _, r => by unfold RepVs at r; exact ⟨rfl, rfl, r⟩
  | 0, _ :: _, _, h, _ => by simp at h
  | n + 1, [], _, h, _ => by simp at h
  | n + 1, d :: ds, vs, h, r => by
    unfold RepVs at r
    obtain ⟨v, w, e, r1, r2⟩ := r
    exact ⟨d, ds, v, w, rfl, e, r1, argsR_plain (by simpa using h) r2⟩

section
variable {X : Cx} {TZ : Tabz} {F : Fx} {W : WX}
theorem tM_mono {G : Gx} {α β : Type} {rep : List Addr → Hp → α → β → Prop} {m : En → Sto → R α} {σ : L2.St} {H : Hp} {Q Q' : β → Hp → Prop} (h : tM G F W rep m σ H Q) (i : ∀ b H', Q b H' → Q' b H') : tM G F W rep m σ H Q' := by
  obtain ⟨θ, st, ρ, hR, hE, h⟩ := h
  refine ⟨θ, st, ρ, hR, hE, ?_⟩
  cases e : m ρ st with
  | ok a s' =>
    rw [e] at h
    exact fun θ' b H' p k R r => i _ _ (h θ' b H' p k R r)
  | ex c d s' => rw [e] at h; exact h
  | no => rw [e] at h; exact h
theorem tru_rep {G : Gx} {θ : List Addr} {st s' : Sto} {H : Hp} {d : D} {x : V} {b : Bool} (R : Rel G θ st H) (h : RepV G.K θ H d x) (e : truM d st = some (b, s')) : TruV G.K x H b ∧ s' = st := by
  unfold truM at e
  split at e
  · cases e; cases rep_non.mp h; exact ⟨rfl, rfl⟩
  · cases e; cases rep_bl.mp h; exact ⟨rfl, rfl⟩
  · cases e; cases rep_int.mp h; exact ⟨rfl, rfl⟩
  · split at e
    · rename_i hl
      cases e; cases rep_str.mp h; exact ⟨⟨hl, rfl⟩, rfl⟩
    · cases e
  · rename_i xs
    cases e
    obtain ⟨a, vs, rfl, s1, r1⟩ := rep_tupE h
    refine ⟨.inr (.inl ⟨vs, s1, ?_⟩), rfl⟩
    have := r1.length
    cases xs <;> cases vs <;> first | rfl | (simp at this)
  · split at e
    · rename_i xs hx
      cases e
      obtain ⟨a, vs, rfl, _, e1, r1⟩ := R.lstOf hx h
      refine ⟨.inl ⟨vs, SqL.of e1, ?_⟩, rfl⟩
      have := r1.length
      cases xs <;> cases vs <;> first | rfl | (simp at this)
    · cases e
  · cases e
  · cases e
theorem rt_val {e : Expr} {m : C} (h : RE X TZ F W e m) (he : ∀ whole, isTrue e X.env whole = (do let v ← whole; standAt e.pos; holding [v] (truthy v)) := by intro _; rfl) : RT X TZ F W e (bVal m) := by
  refine PT.imp (pt_val h he) fun σ H Q q => ?_
  obtain ⟨θ, st, ρ, hR, hE, q⟩ := q
  refine ⟨θ, st, ρ, hR, hE, q.seq fun θ1 d s1 x H1 p1 k1 R1 r1 h1 => ?_⟩
  cases d with
  | bl b => exact ⟨b, rep_bl.mp r1, h1.now R1 rfl⟩
  | _ => exact h1.elim
theorem rt_cmp {a b : Expr} {op : CmpOp} {pos : Pos} {m : D → D → Sto → Option (D × Sto)} {ma mb : C} (ho : OpR X (compareOp op) (rM (gx X TZ) m)) (ha : RE X TZ F W a ma) (hb : RE X TZ F W b mb) (hm : behindInMarks op b = false) : RT X TZ F W (.Compare a [op] [b] pos) (bVal (cOp m ma mb)) := by
  refine PT.imp (pt_cmpR ho ha hb hm) fun σ H Q q => ?_
  obtain ⟨θ, st, ρ, hR, hE, q⟩ := q
  refine ⟨θ, st, ρ, hR, hE, ?_⟩
  unfold bVal cOp at q
  have q2 : Res (gx X TZ) rB W σ θ H ((ma ρ st).bind fun d s1 => ((mb ρ s1).bind fun e s2 => lift (m d e s2)).bind fun d s => match d with
    | .bl b => .ok b s
    | _ => .no) Q := by
    revert q
    cases ma ρ st <;> exact id
  refine q2.seq fun θ1 d s1 x H1 p1 k1 R1 r1 h1 => ⟨θ1, s1, ρ, R1, hE.step p1 k1, ?_⟩
  have h2 : Res (gx X TZ) rB W σ θ1 H1 ((mb ρ s1).bind fun e s2 => (lift (m d e s2)).bind fun d s => match d with
    | .bl b => .ok b s
    | _ => .no) Q := by
    revert h1
    cases mb ρ s1 <;> exact id
  refine h2.seq fun θ2 e s2 y H2 p2 k2 R2 r2 h3 => ?_
  cases ez : m d e s2 with
  | none => rw [ez] at h3; exact h3.elim
  | some z =>
    obtain ⟨z, s3⟩ := z
    rw [ez] at h3
    refine ⟨θ2, s2, d, e, R2, r1.step p2 k2, r2, z, s3, ez, fun θ3 v H3 p3 k3 R3 r3 => ?_⟩
    cases z with
    | bl b => exact ⟨b, rep_bl.mp r3, h3 θ3 b H3 p3 k3 R3 rfl⟩
    | _ => exact h3.elim
theorem rt_tru {e : Expr} {m : C} (h : RE X TZ F W e m) (he : ∀ whole, isTrue e X.env whole = (do let v ← whole; standAt e.pos; holding [v] (truthy v)) := by intro _; rfl) : RT X TZ F W e (bTru m) := by
  refine PT.imp (pt_truth h he) fun σ H Q q => ?_
  obtain ⟨θ, st, ρ, hR, hE, q⟩ := q
  refine ⟨θ, st, ρ, hR, hE, q.seq fun θ1 d s1 x H1 p1 k1 R1 r1 h1 => ?_⟩
  obtain ⟨b, s', eb, q⟩ := res_lift h1
  obtain ⟨t, rfl⟩ := tru_rep R1 r1 eb
  exact ⟨b, t, q θ1 b H1 (List.prefix_refl _) (Keep.refl _) R1 rfl⟩
theorem rw_and1 {a : Expr} {ma : B} {pos : Pos} (ha : RT X TZ F W a ma) : RW X TZ F W (.BoolOp .And [a] pos) ma := pw_and1 ha
theorem rw_or1 {a : Expr} {ma : B} {pos : Pos} (ha : RT X TZ F W a ma) : RW X TZ F W (.BoolOp .Or [a] pos) ma := pw_or1 ha
theorem rw_and {a b : Expr} {rest : List Expr} {ma mb : B} {pos : Pos} (ha : RT X TZ F W a ma) (hb : RW X TZ F W (.BoolOp .And (b :: rest) pos) mb) : RW X TZ F W (.BoolOp .And (a :: b :: rest) pos) (bAnd ma mb) := by
  refine PW.imp (pw_and ha hb) fun σ H Q q => ?_
  obtain ⟨θ, st, ρ, hR, hE, q⟩ := q
  refine ⟨θ, st, ρ, hR, hE, q.seq fun θ1 x s1 y H1 p1 k1 R1 r1 h1 => ?_⟩
  cases r1
  cases x with
  | true => exact ⟨θ1, s1, ρ, R1, hE.step p1 k1, h1⟩
  | false => exact h1.now R1 rfl
theorem rw_or {a b : Expr} {rest : List Expr} {ma mb : B} {pos : Pos} (ha : RT X TZ F W a ma) (hb : RW X TZ F W (.BoolOp .Or (b :: rest) pos) mb) : RW X TZ F W (.BoolOp .Or (a :: b :: rest) pos) (bOr ma mb) := by
  refine PW.imp (pw_or ha hb) fun σ H Q q => ?_
  obtain ⟨θ, st, ρ, hR, hE, q⟩ := q
  refine ⟨θ, st, ρ, hR, hE, q.seq fun θ1 x s1 y H1 p1 k1 R1 r1 h1 => ?_⟩
  cases r1
  cases x with
  | true => exact h1.now R1 rfl
  | false => exact ⟨θ1, s1, ρ, R1, hE.step p1 k1, h1⟩
theorem RW.rt {e : Expr} {m : B} (h : RW X TZ F W e m) : RT X TZ F W e m := PW.pt h
theorem rt_not {a : Expr} {ma : B} {pos : Pos} (ha : RT X TZ F W a ma) : RT X TZ F W (.UnaryOp .Not a pos) (bNot ma) := by
  refine PT.imp (pt_not ha) fun σ H Q q => ?_
  obtain ⟨θ, st, ρ, hR, hE, q⟩ := q
  refine ⟨θ, st, ρ, hR, hE, q.seq fun θ1 x s1 y H1 p1 k1 R1 r1 h1 => ?_⟩
  cases r1
  exact h1.now R1 rfl
theorem re_one {a : Expr} {m : C} {op : BoolOp} {pos : Pos} (h : RE X TZ F W a m) : RE X TZ F W (.BoolOp op [a] pos) m := pe_one h
theorem re_and {a b : Expr} {rest : List Expr} {ma mb : C} {pos : Pos} (ha : RE X TZ F W a ma) (hb : RE X TZ F W (.BoolOp .And (b :: rest) pos) mb) : RE X TZ F W (.BoolOp .And (a :: b :: rest) pos) (cAnd ma mb) := by
  refine PE.imp (pe_and ha hb) fun σ H Q q => ?_
  obtain ⟨θ, st, ρ, hR, hE, q⟩ := q
  refine ⟨θ, st, ρ, hR, hE, q.seq fun θ1 x s1 y H1 p1 k1 R1 r1 h1 => ?_⟩
  cases x with
  | bl c =>
    cases c with
    | true => exact ⟨true, rep_bl.mp r1, ⟨θ1, s1, ρ, R1, hE.step p1 k1, h1⟩⟩
    | false => exact ⟨false, rep_bl.mp r1, h1.now R1 (rep_bl.mpr rfl)⟩
  | _ => exact h1.elim
theorem re_or {a b : Expr} {rest : List Expr} {ma mb : C} {pos : Pos} (ha : RE X TZ F W a ma) (hb : RE X TZ F W (.BoolOp .Or (b :: rest) pos) mb) : RE X TZ F W (.BoolOp .Or (a :: b :: rest) pos) (cOr ma mb) := by
  refine PE.imp (pe_or ha hb) fun σ H Q q => ?_
  obtain ⟨θ, st, ρ, hR, hE, q⟩ := q
  refine ⟨θ, st, ρ, hR, hE, q.seq fun θ1 x s1 y H1 p1 k1 R1 r1 h1 => ?_⟩
  cases x with
  | bl c =>
    cases c with
    | false => exact ⟨false, rep_bl.mp r1, ⟨θ1, s1, ρ, R1, hE.step p1 k1, h1⟩⟩
    | true => exact ⟨true, rep_bl.mp r1, h1.now R1 (rep_bl.mpr rfl)⟩
  | _ => exact h1.elim
theorem re_not {a : Expr} {ma : C} {pos : Pos} (ha : RE X TZ F W a ma) : RE X TZ F W (.UnaryOp .Not a pos) (cNot ma) := by
  refine PE.imp (pe_not ha) fun σ H Q q => ?_
  obtain ⟨θ, st, ρ, hR, hE, q⟩ := q
  refine ⟨θ, st, ρ, hR, hE, q.seq fun θ1 x s1 y H1 p1 k1 R1 r1 h1 => ?_⟩
  cases x with
  | bl c => exact ⟨c, rep_bl.mp r1, h1.now R1 (rep_bl.mpr rfl)⟩
  | _ => exact h1.elim
theorem re_neg {a : Expr} {ma : C} {pos : Pos} (ha : RE X TZ F W a ma) : RE X TZ F W (.UnaryOp .USub a pos) (cNeg ma) := by
  refine PE.imp (pe_un un_neg ha) fun σ H Q q => ?_
  obtain ⟨θ, st, ρ, hR, hE, q⟩ := q
  refine ⟨θ, st, ρ, hR, hE, q.seq fun θ1 x s1 y H1 p1 k1 R1 r1 h1 => ?_⟩
  cases x with
  | int c => exact ⟨c, rep_int.mp r1, h1.now R1 (rep_int.mpr rfl)⟩
  | _ => exact h1.elim
theorem re_if {t a b : Expr} {mt : B} {ma mb : C} {pos : Pos} (ht : RT X TZ F W t mt) (ha : RE X TZ F W a ma) (hb : RE X TZ F W b mb) : RE X TZ F W (.IfExp t a b pos) (cIf mt ma mb) := by
  refine PE.imp (pe_ifExp ht ha hb) fun σ H Q q => ?_
  obtain ⟨θ, st, ρ, hR, hE, q⟩ := q
  refine ⟨θ, st, ρ, hR, hE, q.seq fun θ1 x s1 y H1 p1 k1 R1 r1 h1 => ?_⟩
  cases r1
  cases x with
  | true => exact ⟨θ1, s1, ρ, R1, hE.step p1 k1, h1⟩
  | false => exact ⟨θ1, s1, ρ, R1, hE.step p1 k1, h1⟩
theorem chain_in {m n : D → D → Sto → Option (D × Sto)} {ma mb mc : C} {σ : L2.St} {H : Hp} {Q : VK} {ta tb tc : TE} {ρ : En} {θ : List Addr} {st : Sto} (hR : Rel (gx X TZ) θ st H) (hE : EnvR (gx X TZ) F θ H ρ σ)
    (ha : ta = tM (gx X TZ) F W (rV (gx X TZ)) ma) (hb : tb = tM (gx X TZ) F W (rV (gx X TZ)) mb) (hc : tc = tM (gx X TZ) F W (rV (gx X TZ)) mc)
    (q : Res (gx X TZ) (rV (gx X TZ)) W σ θ H (cChain m n ma mb mc ρ st) Q) : tChain (rM (gx X TZ) m) (rM (gx X TZ) n) ta tb tc σ H Q := by
  subst ha hb hc
  refine ⟨θ, st, ρ, hR, hE, q.seq fun θ1 d s1 x H1 p1 k1 R1 r1 h1 => ⟨θ1, s1, ρ, R1, hE.step p1 k1, h1.seq fun θ2 e s2 y H2 p2 k2 R2 r2 h2 => ?_⟩⟩
  cases ez : m d e s2 with
  | none => rw [ez] at h2; exact h2.elim
  | some z =>
    obtain ⟨z, s3⟩ := z
    rw [ez] at h2
    refine ⟨θ2, s2, d, e, R2, r1.step p2 k2, r2, z, s3, ez, fun θ3 v H3 p3 k3 R3 r3 => ?_⟩
    cases z with
    | bl b =>
      refine ⟨b, rep_bl.mp r3, ?_⟩
      cases b with
      | false => exact h2 θ3 _ H3 p3 k3 R3 (rep_bl.mpr rfl)
      | true =>
        have h4 : Res (gx X TZ) (rV (gx X TZ)) W σ θ2 H2 ((mc ρ s3).bind fun w s4 => lift (n e w s4)) Q := h2
        have h5 : Res (gx X TZ) (rV (gx X TZ)) W σ θ3 H3 ((mc ρ s3).bind fun w s4 => lift (n e w s4)) Q := by
          revert h4
          cases (mc ρ s3).bind fun w s4 => lift (n e w s4) with
          | ok a s => exact fun h θ' b H' p k => h θ' b H' (p3.trans p) (k3.trans k)
          | ex c d s => exact fun h θ' v H' Ca dx p k => h θ' v H' Ca dx (p3.trans p) (k3.trans k)
          | no => exact id
        refine ⟨θ3, s3, ρ, R3, ((hE.step p1 k1).step p2 k2).step p3 k3, h5.seq fun θ4 w s4 u H4 p4 k4 R4 r4 h6 => ?_⟩
        obtain ⟨a, s5, ea, q5⟩ := res_lift h6
        exact ⟨θ4, s4, e, w, R4, (r2.step p3 k3).step p4 k4, r4, a, s5, ea, q5⟩
    | _ => exact h2.elim
theorem re_chain {a b c : Expr} {op op' : CmpOp} {pos : Pos} {m n : D → D → Sto → Option (D × Sto)} {ma mb mc : C} (ho : OpR X (compareOp op) (rM (gx X TZ) m)) (ho' : OpR X (compareOp op') (rM (gx X TZ) n)) (ha : RE X TZ F W a ma) (hb : RE X TZ F W b mb) (hc : RE X TZ F W c mc)
    (hm : lastMarks [op, op'] [b, c] = false := by with_unfolding_all rfl) : RE X TZ F W (.Compare a [op, op'] [b, c] pos) (cChain m n ma mb mc) :=
  PE.imp (pe_chain ho ho' ha hb hc hm) fun σ H Q ⟨θ, st, ρ, hR, hE, q⟩ => chain_in hR hE rfl rfl rfl q
theorem rt_chain {a b c : Expr} {op op' : CmpOp} {pos : Pos} {m n : D → D → Sto → Option (D × Sto)} {ma mb mc : C} (ho : OpR X (compareOp op) (rM (gx X TZ) m)) (ho' : OpR X (compareOp op') (rM (gx X TZ) n)) (ha : RE X TZ F W a ma) (hb : RE X TZ F W b mb) (hc : RE X TZ F W c mc)
    (hm : lastMarks [op, op'] [b, c] = false := by with_unfolding_all rfl) : RT X TZ F W (.Compare a [op, op'] [b, c] pos) (bVal (cChain m n ma mb mc)) := by
  refine PT.imp (pt_chain ho ho' ha hb hc hm) fun σ H Q ⟨θ, st, ρ, hR, hE, q⟩ => ?_
  refine chain_in (m := m) (n := n) (ma := ma) (mb := mb) (mc := mc) hR hE rfl rfl rfl ?_
  unfold bVal at q
  cases e : cChain m n ma mb mc ρ st with
  | ok d s =>
    rw [e] at q
    intro θ1 v H1 p1 k1 R1 r1
    cases d with
    | bl b => exact ⟨b, rep_bl.mp r1, q θ1 b H1 p1 k1 R1 rfl⟩
    | _ => exact q.elim
  | ex c d s => rw [e] at q; exact q
  | no => rw [e] at q; exact q
/-! arguments -/
theorem ra_nil : RA X TZ F W [] aNil := PA.imp pa_nil fun σ H Q ⟨θ, st, ρ, hR, hE, q⟩ => q.now hR .nil_iff
theorem ra_cons {e : Expr} {es : List Expr} {m : C} {r : AL} (ha : RE X TZ F W e m) (hr : RA X TZ F W es r) (hs : starEach (e :: es) X.env = (false, eval e X.env) :: starEach es X.env := by rfl) : RA X TZ F W (e :: es) (aCons m r) := by
  refine PA.imp (pa_cons ha hr hs) fun σ H Q ⟨θ, st, ρ, hR, hE, q⟩ => ?_
  refine ⟨θ, st, ρ, hR, hE, q.seq fun θ1 d s1 x H1 p1 k1 R1 r1 h1 => ⟨θ1, s1, ρ, R1, hE.step p1 k1, h1.seq fun θ2 ds s2 xs H2 p2 k2 R2 r2 h2 => ?_⟩⟩
  exact h2.now R2 (.cons (r1.step p2 k2) r2)
theorem re_tup {es : List Expr} {x1 pos} {r : AL} (h : RA X TZ F W es r) : RE X TZ F W (.Tuple es x1 pos) (cTup r) := by
  refine PE.imp (pe_tupF h) fun σ H Q ⟨θ, st, ρ, hR, hE, q⟩ => ?_
  refine ⟨θ, st, ρ, hR, hE, q.seq fun θ1 ds s1 xs H1 p1 k1 R1 r1 h1 => ?_⟩
  split at h1
  · rename_i hl
    exact ⟨by rw [← r1.length]; exact hl, fin_tup R1 r1 h1⟩
  · exact h1.elim
theorem re_lst {es : List Expr} {pos} {r : AL} (h : RA X TZ F W es r) : RE X TZ F W (.List es pos) (cLst r) := by
  refine PE.imp (pe_lst h) fun σ H Q ⟨θ, st, ρ, hR, hE, q⟩ => ?_
  refine ⟨θ, st, ρ, hR, hE, q.seq fun θ1 ds s1 xs H1 p1 k1 R1 r1 h1 => ?_⟩
  split at h1
  · rename_i hl
    exact ⟨by rw [← r1.length]; exact hl, fun p hp => fin_lst R1 r1 hp h1⟩
  · exact h1.elim
/-! calls -/
def rC (G : Gx) (m : List D → Sto → Option (D × Sto)) : List V → Hp → VK → Prop := fun xs H Q => ∃ (θ : List Addr) (st : Sto) (ds : List D), Rel G θ st H ∧ RepVs G.K θ H ds xs ∧
  ∃ r s', m ds st = some (r, s') ∧ ∀ (θ' : List Addr) (v : V) (H' : Hp), θ <+: θ' → Keep H H' → Rel G θ' s' H' → RepV G.K θ' H' r v → Q v H'
theorem re_bi {e : Expr} {es : List Expr} {f : Value} {m : List D → Sto → Option (D × Sto)} {r : AL} {x : Expr} (hx : ∀ t, PA X (e :: es) t → PE X x (tCB (rC (gx X TZ) m) t)) (ha : RA X TZ F W (e :: es) r) : RE X TZ F W x (cBi m r) := by
  refine PE.imp (hx _ ha) fun σ H Q ⟨θ, st, ρ, hR, hE, q⟩ => ?_
  refine ⟨θ, st, ρ, hR, hE, q.seq fun θ1 ds s1 xs H1 p1 k1 R1 r1 h1 => ?_⟩
  obtain ⟨z, s3, ez, q⟩ := res_lift h1
  exact ⟨θ1, s1, ds, R1, r1, z, s3, ez, q⟩
theorem re_callB {id : String} {x : Str} {e : Expr} {es : List Expr} {m : List D → Sto → Option (D × Sto)} {r : AL} {p pos : Pos} (hc : CallR X (.builtin id) (rC (gx X TZ) m)) (hg : Gl X x) (hm : X.mg x = none) (hv : bootBuiltins x = some (.builtin id)) (ha : RA X TZ F W (e :: es) r) (hn : x ≠ "__name__" := by decide) (hdb : (x == ("__debug__" : Str)) = false := by decide)
    (he : starEach (e :: es) X.env = (false, eval e X.env) :: starEach es X.env := by rfl) (hpl : (backTo pos (starEach es X.env)).any (·.1) = false := by rfl) : RE X TZ F W (.Call (.Name x p) (e :: es) [] pos) (cBi m r) :=
  re_bi (f := .none) (fun t h => pe_callB hc hg hm hv h hn hdb he hpl) ha
theorem re_callTy {T : String} {x : Str} {e : Expr} {es : List Expr} {m : List D → Sto → Option (D × Sto)} {r : AL} {p pos : Pos} (hc : CallR X (.type T) (rC (gx X TZ) m)) (hg : Gl X x) (hm : X.mg x = none) (hv : bootBuiltins x = some (.type T)) (ha : RA X TZ F W (e :: es) r) (hn : x ≠ "__name__" := by decide) (hdb : (x == ("__debug__" : Str)) = false := by decide)
    (he : starEach (e :: es) X.env = (false, eval e X.env) :: starEach es X.env := by rfl) (hpl : (backTo pos (starEach es X.env)).any (·.1) = false := by rfl) : RE X TZ F W (.Call (.Name x p) (e :: es) [] pos) (cBi m r) :=
  re_bi (f := .none) (fun t h => pe_callTy hc hg hm hv h hn hdb he hpl) ha
/-- the call of a def, its arguments at hand -/
theorem run_M {k kc : Nat} {mask : List Bool} {x : Str} {M : List Clo → Clo} {f : Addr} {pins : List (Addr × Obj)} {σ : L2.St} {H : Hp} {s : Shared} {Q : VK} {us : List Value} {vs : List V} (hr : Room k X.A) (tk : Takes X W)
    (run : ∀ (A : Around) (outer : List Env) (s : Shared) (H : Hp) (us : List Value) (vs : List V) (Q : VK) (E : XK), Room k A → Env0 X.prog X.w X.K X.mg X.base A outer s H → Vals vs us → spS (gx X TZ) kc mask M s vs H Q E →
      codeAny (model X.prog X.w) A (.call (.ref f) ⟨us, []⟩) (CR (L2.CX X.prog X.w) outer X.prog X.w H s Q E) s)
    (I : Inv X pins σ H s) (r : Vals vs us) (h : spS (gx X TZ) kc mask M s vs H Q (fun cls d H => W cls d σ H)) : wpAny (model X.prog X.w) X.A (call (.ref f) us) (EP X pins σ Q) X.xe s := by
  refine wpAny_call (codeAny_mono (run X.A X.stack s H us vs Q (fun cls d H => W cls d σ H) hr I.env0 r h) fun r s' hq => ?_)
  cases r with
  | error e => exact passAt tk σ pins H s e s' I hq
  | ok fl =>
    cases fl with
    | ret u => exact I.after hq
    | next => exact False.elim hq
    | brk => exact False.elim hq
    | cont => exact False.elim hq
def cCall (n : Nat) (M : List Clo → Clo) (r : AL) : C := fun ρ st => (r ρ st).bind fun ds s => if ds.length = n then M [] ds s else .no
theorem re_call {k kc n : Nat} {x : Str} {M : List Clo → Clo} {e : Expr} {es : List Expr} {r : AL} {p pos : Pos} (Fm : FnM (gx X TZ) x k kc (List.replicate n false) M) (hr : Room k X.A) (hg : Gl X x) (tk : Takes X W) (ha : RA X TZ F W (e :: es) r) (hdb : (x == ("__debug__" : Str)) = false := by decide)
    (he : starEach (e :: es) X.env = (false, eval e X.env) :: starEach es X.env := by rfl) (hpl : (backTo pos (starEach es X.env)).any (·.1) = false := by rfl) : RE X TZ F W (.Call (.Name x p) (e :: es) [] pos) (cCall n M r) := by
  obtain ⟨f, hm, hk, _, run⟩ := Fm.ex
  refine ⟨fun pins s σ H Q I ⟨θ, st, ρ, hR, hE, q⟩ => ?_⟩
  refine wpAny_Call_Name_kw (ld_glob I hg hm ?_ hdb)
  refine PySem.W.callWith_K (h₀ := X.base) I.ok.mod.kin hk (thn (ha.run pos pins s σ H (fun vs H1 => ∀ s1, Inv X pins σ H1 s1 → spS (gx X TZ) kc (List.replicate n false) M s1 vs H1 Q (fun cls d H => W cls d σ H)) I
    ⟨θ, st, ρ, hR, hE, q.seq fun θ1 ds s1 xs H1 p1 k1 R1 r1 h1 => ?_⟩) fun us s1 ⟨vs, H1, I1, r, q⟩ => ⟨I1.kIn, ?_⟩) he hpl
  · intro s2 I2
    split at h1
    · rename_i hn
      refine ⟨θ1, s1, [], ds, R1, argsR_plain hn r1, ?_⟩
      cases e : M [] ds s1 with
      | ok a s => rw [e] at h1; exact h1
      | ex c d s => rw [e] at h1; exact h1
      | no => rw [e] at h1; exact h1
    · exact h1.elim
  · exact run_M (x := x) hr tk run I1 r (q s1 I1)
/-! functions as arguments -/
/-- arguments, functions among them; the functions are told of the state that the arguments end in -/
def ResF (X : Cx) (TZ : Tabz) (kc : Nat) (mask : List Bool) (W : WX) (σ : L2.St) (θ : List Addr) (H : Hp) (r : R (List Clo × List D)) (Q : Shared → List V → Hp → Prop) : Prop :=
  match r with
  | .ok a st' => ∀ (θ' : List Addr) (s' : Shared) (vs : List V) (H' : Hp), θ <+: θ' → Keep H H' → Rel (gx X TZ) θ' st' H' → ArgsR (gx X TZ) kc s' H' θ' mask a.1 a.2 vs → Q s' vs H'
  | .ex c d st' => ∀ (θ' : List Addr) (v : V) (H' : Hp) (Ca dx : Addr), θ <+: θ' → Keep H H' → Rel (gx X TZ) θ' st' H' → RepV X.K θ' H' d v → X.mg c = some (.ref Ca) → H' dx = some (.xd [("what", v)]) → W (.ref Ca) (some dx) σ H'
  | .no => False
abbrev AF := En → Sto → R (List Clo × List D)
structure RF (X : Cx) (TZ : Tabz) (F : Fx) (W : WX) (kc : Nat) (mask : List Bool) (es : List Expr) (m : AF) : Prop where
  run : ∀ (pos : Pos) (pins : List (Addr × Obj)) (s : Shared) (σ : L2.St) (H : Hp) (Q : Shared → List V → Hp → Prop) (θ : List Addr) (st : Sto) (ρ : En), Inv X pins σ H s → Rel (gx X TZ) θ st H → EnvR (gx X TZ) F θ H ρ σ → ResF X TZ kc mask W σ θ H (m ρ st) Q →
    wpAny (model X.prog X.w) X.A (spliced (backTo pos (starEach es X.env))) (fun us s' => ∃ vs H', Inv X pins σ H' s' ∧ Vals vs us ∧ Q s' vs H') X.xe s
def afNil : AF := fun _ st => .ok ([], []) st
def afCons (a : C) (r : AF) : AF := fun ρ st => (a ρ st).bind fun x s => (r ρ s).bind fun p s2 => .ok (p.1, x :: p.2) s2
theorem rf_nil {kc : Nat} : RF X TZ F W kc [] [] afNil := ⟨fun pos pins s σ H Q θ st ρ I hR hE q => Calls.spliced_nil ⟨[], H, I, .nil, q θ s [] H (List.prefix_refl _) (Keep.refl _) hR ⟨rfl, rfl, rfl⟩⟩⟩
theorem rf_cons {kc : Nat} {mask : List Bool} {e : Expr} {es : List Expr} {m : C} {r : AF} (ha : RE X TZ F W e m) (hr : RF X TZ F W kc mask es r) (hs : starEach (e :: es) X.env = (false, eval e X.env) :: starEach es X.env := by rfl) : RF X TZ F W kc (false :: mask) (e :: es) (afCons m r) := by
  refine ⟨fun pos pins s σ H Q θ st ρ I hR hE q => ?_⟩
  rw [hs]
  show wpAny _ _ (spliced ((false, eval e X.env) :: backTo pos (starEach es X.env))) _ _ s
  have q0 : Res (gx X TZ) (rV (gx X TZ)) W σ θ H (m ρ st) (fun v H1 => ∀ s1, Inv X pins σ H1 s1 → ∀ u, RelV v u → wpAny (model X.prog X.w) X.A (spliced (backTo pos (starEach es X.env))) (fun us s' => ∃ vs H', Inv X pins σ H' s' ∧ Vals vs (u :: us) ∧ Q s' vs H') X.xe s1) := by
    cases e0 : m ρ st with
    | no => unfold afCons at q; rw [e0] at q; exact q
    | ex c d s0 => unfold afCons at q; rw [e0] at q; exact q
    | ok d s0 =>
      intro θ1 v H1 p1 k1 R1 r1 s1 I1 u ru
      unfold afCons at q
      rw [e0] at q
      have q1 : ResF X TZ kc (false :: mask) W σ θ H ((r ρ s0).bind fun p s2 => .ok (p.1, d :: p.2) s2) Q := q
      refine wpAny_mono (hr.run pos pins s1 σ H1 (fun s' vs H' => Q s' (v :: vs) H') θ1 s0 ρ I1 R1 (hE.step p1 k1) ?_) (fun us s' ⟨vs, H', I', rr, qq⟩ => ⟨v :: vs, H', I', .cons ru rr, qq⟩) fun _ _ h => h
      cases e1 : r ρ s0 with
      | no => rw [e1] at q1; exact q1
      | ex c d s0 => rw [e1] at q1; exact fun θ2 w H2 Ca dx p2 k2 => q1 θ2 w H2 Ca dx (p1.trans p2) (k1.trans k2)
      | ok p s2 =>
        rw [e1] at q1
        exact fun θ2 s' vs H2 p2 k2 R2 r2 => q1 θ2 s' (v :: vs) H2 (p1.trans p2) (k1.trans k2) R2 ⟨d, p.2, v, vs, rfl, rfl, r1.step p2 k2, r2⟩
  refine Calls.spliced_cons (thn (ha.run pins s σ H _ I ⟨θ, st, ρ, hR, hE, q0⟩) fun u s1 ⟨v, H1, I1, r1, q1⟩ => ?_)
  exact thn (q1 s1 I1 u r1) fun us s2 h => h
def cCallF (M : List Clo → Clo) (r : AF) : C := fun ρ st => (r ρ st).bind fun p s => M p.1 p.2 s
theorem re_callF {k kc : Nat} {mask : List Bool} {x : Str} {M : List Clo → Clo} {e : Expr} {es : List Expr} {r : AF} {p pos : Pos} (Fm : FnM (gx X TZ) x k kc mask M) (hr : Room k X.A) (hg : Gl X x) (tk : Takes X W) (ha : RF X TZ F W kc mask (e :: es) r) (hdb : (x == ("__debug__" : Str)) = false := by decide)
    (he : starEach (e :: es) X.env = (false, eval e X.env) :: starEach es X.env := by rfl) (hpl : (backTo pos (starEach es X.env)).any (·.1) = false := by rfl) : RE X TZ F W (.Call (.Name x p) (e :: es) [] pos) (cCallF M r) := by
  obtain ⟨f, hm, hk, _, run⟩ := Fm.ex
  refine ⟨fun pins s σ H Q I ⟨θ, st, ρ, hR, hE, q⟩ => ?_⟩
  refine wpAny_Call_Name_kw (ld_glob I hg hm ?_ hdb)
  refine PySem.W.callWith_K (h₀ := X.base) I.ok.mod.kin hk (thn (ha.run pos pins s σ H (fun s1 vs H1 => spS (gx X TZ) kc mask M s1 vs H1 Q (fun cls d H => W cls d σ H)) θ st ρ I hR hE ?_) fun us s1 ⟨vs, H1, I1, r, q⟩ => ⟨I1.kIn, ?_⟩) he hpl
  · unfold cCallF at q
    cases e0 : r ρ st with
    | no => rw [e0] at q; exact q
    | ex c d s0 => rw [e0] at q; exact q
    | ok a s0 =>
      rw [e0] at q
      intro θ1 s1 vs H1 p1 k1 R1 r1
      refine ⟨θ1, s0, a.1, a.2, R1, r1, ?_⟩
      have q1 : Res (gx X TZ) (rV (gx X TZ)) W σ θ H (M a.1 a.2 s0) Q := q
      cases e : M a.1 a.2 s0 with
      | ok b s => rw [e] at q1; exact fun θ2 v H2 p2 k2 => q1 θ2 v H2 (p1.trans p2) (k1.trans k2)
      | ex c d s => rw [e] at q1; exact fun θ2 v H2 Ca dx p2 k2 => q1 θ2 v H2 Ca dx (p1.trans p2) (k1.trans k2)
      | no => rw [e] at q1; exact q1
  · exact run_M (x := x) hr tk run I1 r q
theorem Inv.laterM {pins : List (Addr × Obj)} {σ : L2.St} {H : Hp} {s : Shared} (I : Inv X pins σ H s) (hx : X.ex = []) (e : Keep X.H_0 H) : Later X.s_0 X.H_0 s H := ⟨⟨X.fs, by have u := I.base; rw [hx] at u; exact u⟩, e⟩
/-- one's own function handed on, as the last argument -/
def afSlot (φ : Clo) : AF := fun _ st => .ok ([φ], []) st
theorem rf_slot {i : Nat} {φ : Clo} {x : Str} {pos : Pos} (hF : F.s0 = X.s_0 ∧ F.H0 = X.H_0 := by exact ⟨rfl, rfl⟩) (hl : F.cl.lookup i = some φ) (hex : X.ex = []) (hN : X.N[i]? = some x) (hv : Vis X.env.scope x)
    (hd : (x == ("__debug__" : Str)) = false := by decide) (hcd : (x == ("__classdict__" : Str)) = false := by decide) (hs : starEach [.Name x pos] X.env = (false, eval (.Name x pos) X.env) :: starEach [] X.env := by rfl) : RF X TZ F W F.k [true] [.Name x pos] (afSlot φ) := by
  refine ⟨fun ps pins s σ H Q θ st ρ I hR hE q => ?_⟩
  obtain ⟨kp, a, ea, c⟩ := hE.clo i φ hl
  rw [hF.2] at kp
  rw [hF.1, hF.2] at c
  rw [hs]
  show wpAny _ _ (spliced ((false, eval (.Name x pos) X.env) :: [])) _ _ s
  refine Calls.spliced_cons (thn ((pe_var (pos := pos) hN hv hd hcd).run pins s σ H (fun v H1 => v = .ref a ∧ H1 = H) I ⟨.ref a, ea, rfl, rfl⟩) fun u s1 ⟨v, H1, I1, r1, ev, eH⟩ => ?_)
  subst ev eH
  refine Calls.spliced_nil ⟨[.ref a], H1, I1, .cons r1 .nil, ?_⟩
  exact q θ s1 [.ref a] H1 (List.prefix_refl _) (Keep.refl _) hR ⟨φ, [], a, [], rfl, rfl, c.later (Inv.laterM I1 hex kp), rfl, rfl, rfl⟩
/-- the call of one's own function -/
def cCallP (φ : Clo) (r : AL) : C := fun ρ st => (r ρ st).bind φ
theorem run_P {k j : Nat} {φ : Clo} {a : Addr} {pins : List (Addr × Obj)} {σ : L2.St} {H : Hp} {s : Shared} {θ : List Addr} {st : Sto} {ds : List D} {Q : VK} {us : List Value} {vs : List V} (hr : Room j X.A) (hk : k ≤ j) (tk : Takes X W) (c : CallsM (gx X TZ) k X.s_0 X.H_0 θ a φ) (hex : X.ex = [])
    (I : Inv X pins σ H s) (kp : Keep X.H_0 H) (hR : Rel (gx X TZ) θ st H) (rr : RepVs X.K θ H ds vs) (r : Vals vs us) (h : Res (gx X TZ) (rV (gx X TZ)) W σ θ H (φ ds st) Q) : wpAny (model X.prog X.w) X.A (call (.ref a) us) (EP X pins σ Q) X.xe s := by
  refine wpAny_call (codeAny_mono (c.run X.A X.stack s H us vs ds θ st Q (fun cls d H => W cls d σ H) (hr.mono hk) I.env0 (Inv.laterM I hex kp) (List.prefix_refl _) hR rr r ?_) fun r s' hq => ?_)
  · cases e : φ ds st with
    | ok a s => rw [e] at h; exact h
    | ex c d s => rw [e] at h; exact h
    | no => rw [e] at h; exact h
  cases r with
  | error e => exact passAt tk σ pins H s e s' I hq
  | ok fl =>
    cases fl with
    | ret u => exact I.after hq
    | next => exact False.elim hq
    | brk => exact False.elim hq
    | cont => exact False.elim hq
theorem re_callP {i j : Nat} {φ : Clo} {x : Str} {e : Expr} {es : List Expr} {r : AL} {p pos : Pos} (hl : F.cl.lookup i = some φ) (hex : X.ex = []) (hr : Room j X.A) (hk : F.k ≤ j) (tk : Takes X W) (hN : X.N[i]? = some x) (hv : Vis X.env.scope x) (ha : RA X TZ F W (e :: es) r) (hF : F.s0 = X.s_0 ∧ F.H0 = X.H_0 := by exact ⟨rfl, rfl⟩)
    (hd : (x == ("__debug__" : Str)) = false := by decide) (hcd : (x == ("__classdict__" : Str)) = false := by decide)
    (he : starEach (e :: es) X.env = (false, eval e X.env) :: starEach es X.env := by rfl) (hpl : (backTo pos (starEach es X.env)).any (·.1) = false := by rfl) : RE X TZ F W (.Call (.Name x p) (e :: es) [] pos) (cCallP φ r) := by
  refine ⟨fun pins s σ H Q I ⟨θ, st, ρ, hR, hE, q⟩ => ?_⟩
  obtain ⟨kp, a, ea, c⟩ := hE.clo i φ hl
  rw [hF.2] at kp
  rw [hF.1, hF.2] at c
  refine wpAny_Call_Name_kw (thn ((pe_var (pos := p) hN hv hd hcd).run pins s σ H (fun v H1 => v = .ref a ∧ H1 = H) I ⟨.ref a, ea, rfl, rfl⟩) fun u s1 ⟨v, H1, I1, r1, ev, eH⟩ => ?_)
  subst ev eH
  obtain rfl : u = Value.ref a := r1
  refine PySem.W.callWith_F (first := []) (c.fn _ _ (Inv.laterM I1 hex kp)) (thn (ha.run pos pins s1 σ H1 (fun vs H2 => ∀ s2, Inv X pins σ H2 s2 → ∀ us, Vals vs us → PySem.W.FnAt a s2.heap ∧ wpAny (model X.prog X.w) X.A (call (.ref a) us) (EP X pins σ Q) X.xe s2) I1 ⟨θ, st, ρ, hR, hE, ?_⟩) fun us s2 ⟨vs, H2, I2, r, q2⟩ => q2 s2 I2 us r) he hpl
  refine q.seq fun θ1 ds s1 xs H2 p1 k1 R1 r1 h1 => fun s2 I2 us ru => ⟨c.fn _ _ (Inv.laterM I2 hex (kp.trans k1)), run_P hr hk tk (c.step p1) hex I2 (kp.trans k1) R1 r1 ru h1⟩
theorem re_callP0 {i j : Nat} {φ : Clo} {x : Str} {p pos : Pos} (hl : F.cl.lookup i = some φ) (hex : X.ex = []) (hr : Room j X.A) (hk : F.k ≤ j) (tk : Takes X W) (hN : X.N[i]? = some x) (hv : Vis X.env.scope x) (hF : F.s0 = X.s_0 ∧ F.H0 = X.H_0 := by exact ⟨rfl, rfl⟩)
    (hd : (x == ("__debug__" : Str)) = false := by decide) (hcd : (x == ("__classdict__" : Str)) = false := by decide) : RE X TZ F W (.Call (.Name x p) [] [] pos) (cCallP φ aNil) := by
  refine ⟨fun pins s σ H Q I ⟨θ, st, ρ, hR, hE, q⟩ => ?_⟩
  obtain ⟨kp, a, ea, c⟩ := hE.clo i φ hl
  rw [hF.2] at kp
  rw [hF.1, hF.2] at c
  refine wpAny_Call_Name_kw (thn ((pe_var (pos := p) hN hv hd hcd).run pins s σ H (fun v H1 => v = .ref a ∧ H1 = H) I ⟨.ref a, ea, rfl, rfl⟩) fun u s1 ⟨v, H1, I1, r1, ev, eH⟩ => ?_)
  subst ev eH
  obtain rfl : u = Value.ref a := r1
  exact PySem.W.callWith_F0 (first := []) (c.fn _ _ (Inv.laterM I1 hex kp)) (run_P (us := []) (vs := []) (ds := []) hr hk tk c hex I1 kp hR .nil_iff .nil q)
end
end Rg

/-! statements -/
namespace Rg
open PySem PySem.Spec PyProof.Rows L2 Fs
inductive RO where
  | nx (ρ : En) (s : Sto) | rt (d : D) (s : Sto) | bk (ρ : En) (s : Sto) | ct (ρ : En) (s : Sto) | ex (c : Str) (d : D) (ρ : En) (s : Sto) | no
abbrev S := En → Sto → RO
/-- an expression's outcome goes on to a statement -/
def thenS {α : Type} (ρ : En) (r : R α) (f : α → Sto → RO) : RO := match r with
  | .ok a s => f a s
  | .ex c d s => .ex c d ρ s
  | .no => .no
def sNext : S := fun ρ st => .nx ρ st
def sSeq (a b : S) : S := fun ρ st => match a ρ st with
  | .nx ρ' s => b ρ' s
  | r => r
def sBk : S := fun ρ st => .bk ρ st
def sCt : S := fun ρ st => .ct ρ st
def sExpr (m : C) : S := fun ρ st => thenS ρ (m ρ st) fun _ s => .nx ρ s
def sRet (m : C) : S := fun ρ st => thenS ρ (m ρ st) fun d s => .rt d s
def sRetN : S := fun _ st => .rt .non st
def sIf (t : B) (a b : S) : S := fun ρ st => thenS ρ (t ρ st) fun x s => if x = true then a ρ s else b ρ s
/-- a target: the slots behind it -/
abbrev T := D → En → Sto → Option (En × Sto)
def tN (i : Nat) : T := fun d ρ s => some (ρ.set i (some d), s)
def tsNil : List D → En → Sto → Option (En × Sto) := fun ds ρ s => if ds.isEmpty = true then some (ρ, s) else none
def tsCons (g : T) (r : List D → En → Sto → Option (En × Sto)) : List D → En → Sto → Option (En × Sto) := fun ds ρ s => match ds with
  | d :: es => match g d ρ s with
    | some (ρ1, s1) => r es ρ1 s1
    | none => none
  | [] => none
def tT (n : Nat) (r : List D → En → Sto → Option (En × Sto)) : T := fun d ρ s => match d with
  | .tup ds => if ds.length = n then r ds ρ s else none
  | .wt ds => if ds.length = n then r ds ρ s else none
  | _ => none
def setM : D → D → D → Sto → Option Sto
  | .ref n, .int k, v, st => match st[n]? with
    | some (.lst xs) => (ixN xs.length k).map fun j => st.set n (.lst (xs.set j v))
    | _ => none
  | _, _, _, _ => none
def tS (o i : C) : T := fun d ρ s => match o ρ s with
  | .ok x s1 => match i ρ s1 with
    | .ok y s2 => (setM x y d s2).map fun s3 => (ρ, s3)
    | _ => none
  | _ => none
def sAsg (m : C) (g : T) : S := fun ρ st => thenS ρ (m ρ st) fun d s => match g d ρ s with
  | some (ρ', s') => .nx ρ' s'
  | none => .no
/-- a, b = x, y at once -/
def sPar (i j : Nat) (r : AL) : S := fun ρ st => thenS ρ (r ρ st) fun ds s => match ds with
  | [x, y] => .nx ((ρ.set i (some x)).set j (some y)) s
  | _ => .no
def sAug (i : Nat) (f : D → D → Sto → Option (D × Sto)) (m : C) : S := fun ρ st => match ρ[i]? with
  | some (some x) => thenS ρ (m ρ st) fun y s => match f x y s with
    | some (z, s') => .nx (ρ.set i (some z)) s'
    | none => .no
  | _ => .no
/-- x[i] op= e -/
def sAugS (o i : C) (f : D → D → Sto → Option (D × Sto)) (m : C) : S := fun ρ st => thenS ρ (o ρ st) fun x s1 => thenS ρ (i ρ s1) fun y s2 => match ixM x y s2 with
  | some (u, s3) => thenS ρ (m ρ s3) fun v s4 => match f u v s4 with
    | some (z, s5) => match setM x y z s5 with
      | some s6 => .nx ρ s6
      | none => .no
    | none => .no
  | none => .no
def sRaise (c : Str) (r : AL) : S := fun ρ st => thenS ρ (r ρ st) fun ds s => match ds with
  | [d] => .ex c d ρ s
  | _ => .no

section
variable (G : Gx) (F : Fx) (W : WX)
def ResS (θ : List Addr) (H : Hp) (r : RO) (E : Ends) : Prop := match r with
  | .nx ρ' s' => ∀ (θ' : List Addr) (σ' : L2.St) (H' : Hp), θ <+: θ' → Keep H H' → Rel G θ' s' H' → EnvR G F θ' H' ρ' σ' → E.nx σ' H'
  | .bk ρ' s' => ∀ (θ' : List Addr) (σ' : L2.St) (H' : Hp), θ <+: θ' → Keep H H' → Rel G θ' s' H' → EnvR G F θ' H' ρ' σ' → E.bk σ' H'
  | .ct ρ' s' => ∀ (θ' : List Addr) (σ' : L2.St) (H' : Hp), θ <+: θ' → Keep H H' → Rel G θ' s' H' → EnvR G F θ' H' ρ' σ' → E.ct σ' H'
  | .rt d s' => ∀ (θ' : List Addr) (v : V) (H' : Hp), θ <+: θ' → Keep H H' → Rel G θ' s' H' → RepV G.K θ' H' d v → E.rt v H'
  | .ex c d ρ' s' => ∀ (θ' : List Addr) (σ' : L2.St) (v : V) (H' : Hp) (Ca dx : Addr), θ <+: θ' → Keep H H' → Rel G θ' s' H' → EnvR G F θ' H' ρ' σ' → RepV G.K θ' H' d v → G.mg c = some (.ref Ca) → H' dx = some (.xd [("what", v)]) → W (.ref Ca) (some dx) σ' H'
  | .no => False
def tMS (m : S) : TS := fun E σ H => ∃ (θ : List Addr) (st : Sto) (ρ : En), Rel G θ st H ∧ EnvR G F θ H ρ σ ∧ ResS G F W θ H (m ρ st) E
end
section
variable (X : Cx) (TZ : Tabz) (F : Fx) (W : WX)
def RS (st : Stmt) (m : S) : Prop := PS X st (tMS (gx X TZ) F W m)
def RSs (st : List Stmt) (m : S) : Prop := PSs X st (tMS (gx X TZ) F W m)
/-- a target's rule -/
def RG (e : Expr) (g : T) : Prop := ∃ t : TG, PG X e t ∧ ∀ (θ : List Addr) (st s' : Sto) (ρ ρ' : En) (σ : L2.St) (H : Hp) (d : D) (v : V) (Q : L2.St → Hp → Prop), Rel (gx X TZ) θ st H → EnvR (gx X TZ) F θ H ρ σ → RepV X.K θ H d v → g d ρ st = some (ρ', s') →
  (∀ (θ' : List Addr) (σ' : L2.St) (H' : Hp), θ <+: θ' → Keep H H' → Rel (gx X TZ) θ' s' H' → EnvR (gx X TZ) F θ' H' ρ' σ' → Q σ' H') → t v σ H Q
def RGs (es : List Expr) (g : List D → En → Sto → Option (En × Sto)) : Prop := ∃ t : TGs, PGs X es t ∧ ∀ (θ : List Addr) (st s' : Sto) (ρ ρ' : En) (σ : L2.St) (H : Hp) (d : List D) (v : List V) (Q : L2.St → Hp → Prop), Rel (gx X TZ) θ st H → EnvR (gx X TZ) F θ H ρ σ → RepVs X.K θ H d v → g d ρ st = some (ρ', s') →
  (∀ (θ' : List Addr) (σ' : L2.St) (H' : Hp), θ <+: θ' → Keep H H' → Rel (gx X TZ) θ' s' H' → EnvR (gx X TZ) F θ' H' ρ' σ' → Q σ' H') → t v σ H Q
end
section
variable {X : Cx} {TZ : Tabz} {F : Fx} {W : WX} {G : Gx} {θ θ' : List Addr} {H H' : Hp} {st s' : Sto} {ρ : En} {σ : L2.St}
theorem ResS.step {r : RO} {E : Ends} (p : θ <+: θ') (k : Keep H H') (h : ResS G F W θ H r E) : ResS G F W θ' H' r E := by
  cases r with
  | nx ρ s => exact fun t σ H2 p2 k2 => h t σ H2 (p.trans p2) (k.trans k2)
  | bk ρ s => exact fun t σ H2 p2 k2 => h t σ H2 (p.trans p2) (k.trans k2)
  | ct ρ s => exact fun t σ H2 p2 k2 => h t σ H2 (p.trans p2) (k.trans k2)
  | rt d s => exact fun t v H2 p2 k2 => h t v H2 (p.trans p2) (k.trans k2)
  | ex c d ρ s => exact fun t σ v H2 Ca dx p2 k2 => h t σ v H2 Ca dx (p.trans p2) (k.trans k2)
  | no => exact h
theorem Res.thenS {α β : Type} {rep : List Addr → Hp → α → β → Prop} {r : R α} {f : α → Sto → RO} {E : Ends} {Q1 : β → Hp → Prop} (hE : EnvR G F θ H ρ σ) (h : ResS G F W θ H (thenS ρ r f) E)
    (k : ∀ (θ' : List Addr) (a : α) (s' : Sto) (b : β) (H' : Hp), θ <+: θ' → Keep H H' → Rel G θ' s' H' → rep θ' H' a b → ResS G F W θ' H' (f a s') E → Q1 b H') : Res G rep W σ θ H r Q1 := by
  cases r with
  | ok a s => exact fun θ' b H' p kp R q => k θ' a s b H' p kp R q (ResS.step (r := f a s) p kp h)
  | ex c d s => exact fun θ' v H' Ca dx p kp R q => h θ' σ v H' Ca dx p kp R (hE.step p kp) q
  | no => exact h
theorem rs_pass {pos : Pos} : RS X TZ F W (.Pass pos) sNext := PS.imp ps_pass fun E σ H ⟨θ, st, ρ, hR, hE, q⟩ => q θ σ H (List.prefix_refl _) (Keep.refl _) hR hE
theorem rs_break {pos : Pos} : RS X TZ F W (.Break pos) sBk := PS.imp ps_break fun E σ H ⟨θ, st, ρ, hR, hE, q⟩ => q θ σ H (List.prefix_refl _) (Keep.refl _) hR hE
theorem rs_continue {pos : Pos} : RS X TZ F W (.Continue pos) sCt := PS.imp ps_continue fun E σ H ⟨θ, st, ρ, hR, hE, q⟩ => q θ σ H (List.prefix_refl _) (Keep.refl _) hR hE
theorem rss_nil : RSs X TZ F W [] sNext := PSs.imp pss_nil fun E σ H ⟨θ, st, ρ, hR, hE, q⟩ => q θ σ H (List.prefix_refl _) (Keep.refl _) hR hE
theorem rss_one {st : Stmt} {m : S} (h : RS X TZ F W st m) : RSs X TZ F W [st] m := pss_one h
theorem rss_cons {st : Stmt} {rest : List Stmt} {m n : S} (h1 : RS X TZ F W st m) (h2 : RSs X TZ F W rest n) : RSs X TZ F W (st :: rest) (sSeq m n) := by
  refine PSs.imp (pss_cons h1 h2) fun E σ H ⟨θ, s0, ρ, hR, hE, q⟩ => ⟨θ, s0, ρ, hR, hE, ?_⟩
  unfold sSeq at q
  cases e : m ρ s0 with
  | nx ρ1 s1 =>
    rw [e] at q
    exact fun θ' σ' H' p k R E' => ⟨θ', s1, ρ1, R, E', ResS.step (r := n ρ1 s1) p k q⟩
  | rt d s => rw [e] at q; exact q
  | bk ρ s => rw [e] at q; exact q
  | ct ρ s => rw [e] at q; exact q
  | ex c d ρ s => rw [e] at q; exact q
  | no => rw [e] at q; exact q
theorem rs_expr {e : Expr} {m : C} {pos : Pos} (h : RE X TZ F W e m) (hs : swapsWith e none pos.line X.env = pure false := by rfl) : RS X TZ F W (.Expr e pos) (sExpr m) := by
  refine PS.imp (ps_expr h hs) fun E σ H ⟨θ, s0, ρ, hR, hE, q⟩ => ⟨θ, s0, ρ, hR, hE, Res.thenS hE q fun θ1 d s1 v H1 p k R r h1 => ?_⟩
  exact h1 θ1 σ H1 (List.prefix_refl _) (Keep.refl _) R (hE.step p k)
theorem rs_doc {x j pos pos'} : RS X TZ F W (.Expr (.Constant (.str x) j pos) pos') sNext := PS.imp ps_doc fun E σ H ⟨θ, st, ρ, hR, hE, q⟩ => q θ σ H (List.prefix_refl _) (Keep.refl _) hR hE
theorem rs_ret {e : Expr} {m : C} {pos : Pos} (h : RE X TZ F W e m) : RS X TZ F W (.Return (some e) pos) (sRet m) := by
  refine PS.imp (ps_ret h) fun E σ H ⟨θ, s0, ρ, hR, hE, q⟩ => ⟨θ, s0, ρ, hR, hE, Res.thenS hE q fun θ1 d s1 v H1 p k R r h1 => ?_⟩
  exact h1 θ1 v H1 (List.prefix_refl _) (Keep.refl _) R r
theorem rs_retN {pos : Pos} : RS X TZ F W (.Return none pos) sRetN := PS.imp ps_retN fun E σ H ⟨θ, st, ρ, hR, hE, q⟩ => q θ .non H (List.prefix_refl _) (Keep.refl _) hR (rep_non.mpr rfl)
theorem rs_if {c : Expr} {a b : List Stmt} {mt : B} {ma mb : S} {pos : Pos} (hc : RT X TZ F W c mt) (ha : RSs X TZ F W a ma) (hb : RSs X TZ F W b mb) : RS X TZ F W (.If c a b pos) (sIf mt ma mb) := by
  refine PS.imp (ps_if hc ha hb) fun E σ H ⟨θ, s0, ρ, hR, hE, q⟩ => ⟨θ, s0, ρ, hR, hE, Res.thenS hE q fun θ1 x s1 y H1 p k R r h1 => ?_⟩
  cases r
  cases x with
  | true => exact ⟨θ1, s1, ρ, R, hE.step p k, h1⟩
  | false => exact ⟨θ1, s1, ρ, R, hE.step p k, h1⟩
theorem EnvR.set (hE : EnvR G F θ H ρ σ) {d : D} {v : V} (i : Nat) (hc : F.free i = true) (r : RepV G.K θ H d v) : EnvR G F θ H (ρ.set i (some d)) (σ.set i (some v)) := by
  unfold Fx.free at hc
  rw [Bool.and_eq_true] at hc
  obtain ⟨hc, hx⟩ := hc
  have hc : F.cl.lookup i = none := by simpa using hc
  refine ⟨by rw [List.length_set, List.length_set]; exact hE.len, fun j e h => ?_, fun j φ h => ?_, fun j a dd d' h => ?_⟩
  · by_cases hj : j = i
    · subst hj
      have hl : j < ρ.length := by
        have := (List.getElem?_eq_some_iff.mp h).1
        rw [List.length_set] at this
        exact this
      rw [List.getElem?_set_self hl] at h
      cases h
      exact ⟨v, by rw [List.getElem?_set_self (by rw [← hE.len]; exact hl)], r⟩
    · rw [List.getElem?_set_ne (Ne.symm hj)] at h
      obtain ⟨w, e1, r1⟩ := hE.has j e h
      exact ⟨w, by rw [List.getElem?_set_ne (Ne.symm hj)]; exact e1, r1⟩
  · obtain ⟨kp, a, ea, c⟩ := hE.clo j φ h
    refine ⟨kp, a, ?_, c⟩
    rw [List.getElem?_set_ne (fun z => by subst z; rw [hc] at h; cases h)]
    exact ea
  · obtain ⟨e1, v', e2, r2⟩ := hE.exc j a dd d' h
    rw [h] at hx
    have hne : i ≠ j := fun z => by subst z; simp at hx
    exact ⟨by rw [List.getElem?_set_ne hne]; exact e1, v', e2, r2⟩
theorem rg_name {i : Nat} {x : Str} {pos : Pos} (hN : X.N.Nodup) (hi : X.N[i]? = some x) (hx : Loc X.env.scope x) (hf : X.fn x = true ∨ X.env.scope.names.lookup x = some .local := by first | exact .inl rfl | exact .inr rfl | assumption) (hcl : F.free i = true := by rfl) : RG X TZ F (.Name x pos) (tN i) :=
  ⟨_, pg_name hN hi hx hf, fun θ st s' ρ ρ' σ H d v Q hR hE r e q => by
    cases e
    exact q θ _ H (List.prefix_refl _) (Keep.refl _) hR (hE.set i hcl r)⟩
theorem rgs_nil : RGs X TZ F [] tsNil := ⟨_, pgs_nil, fun θ st s' ρ ρ' σ H d v Q hR hE r e q => by
  unfold tsNil at e
  split at e
  · rename_i h
    cases e
    have hd : d = [] := List.isEmpty_iff.mp h
    subst hd
    unfold RepVs at r
    exact ⟨r, q θ σ H (List.prefix_refl _) (Keep.refl _) hR hE⟩
  · cases e⟩
theorem rgs_cons {e : Expr} {es : List Expr} {g : T} {r : List D → En → Sto → Option (En × Sto)} (h1 : RG X TZ F e g) (h2 : RGs X TZ F es r) (hs : (assignEach (e :: es) X.env).map (·.2) = assign e X.env :: (assignEach es X.env).map (·.2) := by rfl) : RGs X TZ F (e :: es) (tsCons g r) := by
  obtain ⟨t1, g1, k1⟩ := h1
  obtain ⟨t2, g2, k2⟩ := h2
  refine ⟨_, pgs_cons g1 g2 hs, fun θ st s' ρ ρ' σ H ds vs Q hR hE rp e q => ?_⟩
  unfold tsCons at e
  split at e
  · rename_i d es2
    split at e
    · rename_i ρ1 s1 e1
      unfold RepVs at rp
      obtain ⟨v, w, rfl, r1, r2⟩ := rp
      refine ⟨v, w, rfl, k1 θ st s1 ρ ρ1 σ H d v _ hR hE r1 e1 fun θ1 σ1 H1 p1 kp1 R1 E1 => ?_⟩
      exact k2 θ1 s1 s' ρ1 ρ' σ1 H1 es2 w Q R1 E1 (r2.step p1 kp1) e fun θ2 σ2 H2 p2 kp2 => q θ2 σ2 H2 (p1.trans p2) (kp1.trans kp2)
    · cases e
  · cases e
theorem rg_tup {es : List Expr} {k : Nat} {r : List D → En → Sto → Option (En × Sto)} {n : Nat} {pos : Pos} (hc : X.calm = true) (h : RGs X TZ F es r) (hn : (assignEach es X.env).length = n := by rfl) (hst : (assignEach es X.env).findIdx? (·.1) = none := by rfl) : RG X TZ F (.Tuple es k pos) (tT n r) := by
  obtain ⟨t, g, kk⟩ := h
  refine ⟨_, pg_tup hc g hn hst, fun θ st s' ρ ρ' σ H d v Q hR hE rp e q => ?_⟩
  unfold tT at e
  split at e
  · rename_i ds
    split at e
    · rename_i hl
      obtain ⟨a, vs, rfl, s1, r1⟩ := rep_tupE rp
      exact ⟨a, vs, rfl, s1, by rw [← r1.length]; exact hl, kk θ st s' ρ ρ' σ H ds vs Q hR hE r1 e q⟩
    · cases e
  · rename_i ds
    split at e
    · rename_i hl
      obtain ⟨a, vs, rfl, s1, r1⟩ := rep_wt.mp rp
      exact ⟨a, vs, rfl, SqT.of s1, by rw [← r1.length]; exact hl, kk θ st s' ρ ρ' σ H ds vs Q hR hE r1 e q⟩
    · cases e
  · cases e
/-- a store into what is there by values -/
theorem set_M {pins : List (Addr × Obj)} {s : Shared} {o i d : D} {x y v : V} {ov iv u : Value} {Q : Hp → Prop} (I : Inv X pins σ H s) (ro : RelV x ov) (ri : RelV y iv) (rv : RelV v u) (hR : Rel (gx X TZ) θ st H) (h1 : RepV X.K θ H o x) (h2 : RepV X.K θ H i y) (h3 : RepV X.K θ H d v)
    (e : setM o i d st = some s') (q : ∀ H', Keep H H' → Rel (gx X TZ) θ s' H' → Q H') : wpAny (model X.prog X.w) X.A (setItem ov iv u) (fun _ s2 => ∃ H', Inv X pins σ H' s2 ∧ Q H') X.xe s := by
  unfold setM at e
  split at e
  · rename_i n k
    split at e
    · rename_i xs hx
      obtain ⟨j, hj, rfl⟩ := Option.map_eq_some_iff.mp e
      cases rep_int.mp h2
      obtain ⟨a, vs, rfl, ht, e1, r1⟩ := hR.lstOf hx h1
      refine set_list pins s σ H _ _ v ov iv u Q I ro ri rv ⟨a, vs, k, j, rfl, rfl, e1, by rw [← r1.length]; exact hj, q _ (Keep.list e1) ?_⟩
      exact hR.set hx ht e1 (r1.set j h3)
    · cases e
  · cases e
def rSet (X : Cx) (TZ : Tabz) : TSet := fun x y v H Q => ∃ (θ : List Addr) (st s' : Sto) (o i d : D), Rel (gx X TZ) θ st H ∧ RepV X.K θ H o x ∧ RepV X.K θ H i y ∧ RepV X.K θ H d v ∧ setM o i d st = some s' ∧ ∀ H', Keep H H' → Rel (gx X TZ) θ s' H' → Q H'
theorem pset_M : PSet X (rSet X TZ) := fun pins s σ H x y v ov iv u Q I ro ri rv ⟨θ, st, s', o, i, d, hR, h1, h2, h3, e, q⟩ => set_M I ro ri rv hR h1 h2 h3 e q
/-- an outcome that is told -/
theorem res_ok {α β : Type} {rep : List Addr → Hp → α → β → Prop} {r : R α} {a : α} {Q : β → Hp → Prop} (e : r = .ok a s') (h : ∀ (θ' : List Addr) (b : β) (H' : Hp), θ <+: θ' → Keep H H' → Rel G θ' s' H' → rep θ' H' a b → Q b H') : Res G rep W σ θ H r Q := by
  subst e
  exact h
theorem rg_sub {o i : Expr} {mo mi : C} {pos : Pos} (ho : RE X TZ F W o mo) (hi : RE X TZ F W i mi)
    (ha : ∀ v, assign (.Subscript o i pos) X.env v = (do
      let ov ← holding [v] (eval o X.env)
      let iv ← holding [v, ov] (eval i X.env)
      standAt pos
      holding [v, ov, iv] (setItem ov iv v)
      release [v, ov, iv] []) := by intro _; rfl) : RG X TZ F (.Subscript o i pos) (tS mo mi) := by
  refine ⟨_, pg_sub ho hi (pset_M (TZ := TZ)) ha, fun θ st s' ρ ρ' σ H d v Q hR hE rp e q => ?_⟩
  unfold tS at e
  split at e
  · rename_i x s1 e1
    split at e
    · rename_i y s2 e2
      obtain ⟨s3, e3, ez⟩ := Option.map_eq_some_iff.mp e
      cases ez
      refine ⟨θ, st, ρ, hR, hE, res_ok e1 fun θ1 v1 H1 p1 k1 R1 r1 => ⟨θ1, s1, ρ, R1, hE.step p1 k1, res_ok e2 fun θ2 v2 H2 p2 k2 R2 r2 => ?_⟩⟩
      have k12 := k1.trans k2
      exact ⟨θ2, s2, s', x, y, d, R2, r1.step p2 k2, r2, rp.step (p1.trans p2) k12, e3, fun H3 k3 R3 => q θ2 σ H3 (p1.trans p2) (k12.trans k3) R3 ((hE.step (p1.trans p2) k12).step (List.prefix_refl _) k3)⟩
    · cases e
  · cases e
theorem rs_asg {tg e : Expr} {m : C} {g : T} {pos : Pos} (he : RE X TZ F W e m) (hg : RG X TZ F tg g) (hs : swapsWithSole [tg] e pos.line X.env = pure false := by rfl) (hw : swappedStores [tg] e X.env = pure none := by rfl)
    (h1 : (assignEach [tg] X.env).map (·.2) = [assign tg X.env] := by rfl) : RS X TZ F W (.Assign [tg] e pos) (sAsg m g) := by
  obtain ⟨t, hg, kk⟩ := hg
  refine PS.imp (ps_asg he hg hs hw h1) fun E σ H ⟨θ, s0, ρ, hR, hE, q⟩ => ⟨θ, s0, ρ, hR, hE, Res.thenS hE q fun θ1 d s1 v H1 p k R r h1 => ?_⟩
  revert h1
  cases e1 : g d ρ s1 with
  | none => exact fun h1 => h1.elim
  | some z =>
    obtain ⟨ρ', s'⟩ := z
    exact fun h1 => kk θ1 s1 s' ρ ρ' σ H1 d v _ R (hE.step p k) r e1 h1
/-- name = value, also where the two stand on one row -/
theorem rs_set {i : Nat} {x : Str} {e : Expr} {m : C} {pos pos' : Pos} (hN : X.N.Nodup) (hi : X.N[i]? = some x) (hx : Loc X.env.scope x) (he : RE X TZ F W e m) (hs : swapsWith e (some (.Name x pos')) pos.line X.env = pure false := by rfl) (hf : X.fn x = true ∨ X.env.scope.names.lookup x = some .local := by first | exact .inl rfl | exact .inr rfl | assumption) (hcl : F.free i = true := by rfl) :
    RS X TZ F W (.Assign [.Name x pos'] e pos) (sAsg m (tN i)) := by
  refine PS.imp (ps_set hN hi hx he hs hf) fun E σ H ⟨θ, s0, ρ, hR, hE, q⟩ => ⟨θ, s0, ρ, hR, hE, Res.thenS hE q fun θ1 d s1 v H1 p k R r h1 => ?_⟩
  exact h1 θ1 _ H1 (List.prefix_refl _) (Keep.refl _) R ((hE.step p k).set i hcl r)
theorem rs_par {i j : Nat} {x y : Str} {a b : Expr} {r : AL} {px py pt : Pos} {kt k2 pt2} {pos : Pos} (hc : X.calm = true) (hN : X.N.Nodup) (hi : X.N[i]? = some x) (hj : X.N[j]? = some y) (hij : i ≠ j)
    (hx : X.env.scope.names.lookup x = some .local) (hy : X.env.scope.names.lookup y = some .local) (ha : RA X TZ F W [a, b] r)
    (hw : swappedStores [.Tuple [.Name x px, .Name y py] kt pt] (.Tuple [a, b] k2 pt2) X.env = pure (some [x, y]))
    (hs : swapsWithSole [.Tuple [.Name x px, .Name y py] kt pt] (.Tuple [a, b] k2 pt2) pos.line X.env = pure false := by rfl) (hcl : F.free i = true := by rfl) (hcl2 : F.free j = true := by rfl) :
    RS X TZ F W (.Assign [.Tuple [.Name x px, .Name y py] kt pt] (.Tuple [a, b] k2 pt2) pos) (sPar i j r) := by
  refine PS.imp (ps_par hc hN hi hj hij hx hy ha hw hs) fun E σ H ⟨θ, s0, ρ, hR, hE, q⟩ => ⟨θ, s0, ρ, hR, hE, Res.thenS hE q fun θ1 ds s1 vs H1 p k R rp h1 => ?_⟩
  match ds, rp, h1 with
  | [d, e], rp, h1 =>
    unfold RepVs at rp
    obtain ⟨v, w, rfl, r1, rp⟩ := rp
    unfold RepVs at rp
    obtain ⟨v2, w2, rfl, r2, rp⟩ := rp
    unfold RepVs at rp
    subst rp
    exact ⟨v, v2, rfl, h1 θ1 _ H1 (List.prefix_refl _) (Keep.refl _) R (((hE.step p k).set i hcl r1).set j hcl2 r2)⟩
  | [], rp, h1 => exact h1.elim
  | [_], rp, h1 => exact h1.elim
  | _ :: _ :: _ :: _, rp, h1 => exact h1.elim
theorem rs_aug {i : Nat} {x : Str} {e : Expr} {m : C} {op : Operator} {f : D → D → Sto → Option (D × Sto)} {pos pos' : Pos} (hN : X.N.Nodup) (hi : X.N[i]? = some x) (hx : Loc X.env.scope x) (he : RE X TZ F W e m) (ho : PIp X op (rM (gx X TZ) f)) (hf : X.fn x = true ∨ X.env.scope.names.lookup x = some .local := by first | exact .inl rfl | exact .inr rfl | assumption) (hcl : F.free i = true := by rfl) :
    RS X TZ F W (.AugAssign (.Name x pos') op e pos) (sAug i f m) := by
  refine PS.imp (ps_aug hN hi hx he ho hf) fun E σ H ⟨θ, s0, ρ, hR, hE, q⟩ => ?_
  unfold sAug at q
  cases e0 : ρ[i]? with
  | none => rw [e0] at q; exact q.elim
  | some o =>
    cases o with
    | none => rw [e0] at q; exact q.elim
    | some d =>
      rw [e0] at q
      obtain ⟨v, ev, rv⟩ := hE.has i d e0
      have q2 : ResS (gx X TZ) F W θ H (Rg.thenS ρ (m ρ s0) fun y s => match f d y s with
        | some (z, s') => .nx (ρ.set i (some z)) s'
        | none => .no) E := q
      refine ⟨v, ev, θ, s0, ρ, hR, hE, Res.thenS hE q2 fun θ1 y s1 w H1 p k R r h1 => ?_⟩
      revert h1
      cases e1 : f d y s1 with
      | none => exact fun h1 => h1.elim
      | some z =>
        obtain ⟨z, s'⟩ := z
        exact fun h1 => ⟨θ1, s1, d, y, R, rv.step p k, r, z, s', e1, fun θ2 u H2 p2 k2 R2 r2 => h1 θ2 _ H2 p2 k2 R2 (((hE.step p k).step p2 k2).set i hcl r2)⟩
end
end Rg

/-! loops -/
namespace Rg
open PySem PySem.Spec PyProof.Rows L2 Fs
/-- what a loop walks: the items, and the lists of the store that must stay as they are -/
structure Wk where
  items : List D
  lk : List (Nat × List D)
def okW (lk : List (Nat × List D)) (st : Sto) : Prop := ∀ p ∈ lk, st[p.1]? = some (.lst p.2)
/-- the turns' iterator does what the walk says -/
def ItOk (G : Gx) (θ0 : List Addr) (H0 : Hp) (wk : Wk) (J : It) : Prop := ∀ (θ : List Addr) (st : Sto) (H : Hp), θ0 <+: θ → Keep H0 H → Rel G θ st H → okW wk.lk st →
  (∀ i, i = wk.items.length → J.stop i H) ∧ ∀ i d, wk.items[i]? = some d → J.go i H ∧ ∀ x H', J.yld i H x H' → Keep H H' ∧ Rel G θ st H' ∧ RepV G.K θ H' d x
abbrev MI := En → Sto → R Wk
section
variable (X : Cx) (TZ : Tabz) (F : Fx) (W : WX)
structure RI (tg iter : Expr) (m : MI) : Prop where
  ex : ∃ wi : TI, PI X tg iter wi ∧ ∀ (σ : L2.St) (H : Hp) (θ : List Addr) (st : Sto) (ρ : En) (R : It → Hp → Prop), Rel (gx X TZ) θ st H → EnvR (gx X TZ) F θ H ρ σ →
    Res (gx X TZ) (fun θ' H' wk J => ItOk (gx X TZ) θ' H' wk J) W σ θ H (m ρ st) R → wi σ H R
end
theorem pi_or {X : Cx} {tg iter : Expr} {w1 w2 : TI} (a : PI X tg iter w1) (b : PI X tg iter w2) : PI X tg iter (fun σ H R => w1 σ H R ∨ w2 σ H R) :=
  ⟨fun pins s σ H R I h => h.elim (a.run pins s σ H R I) (b.run pins s σ H R I)⟩
noncomputable def loopF (ok : Sto → Prop) (tgt : T) (body : S) : List D → S
  | [], ρ, st => haveI := Classical.propDecidable; if ok st then .nx ρ st else .no
  | d :: ds, ρ, st => haveI := Classical.propDecidable; if ok st then
      match tgt d ρ st with
      | none => .no
      | some (ρ1, s1) => match body ρ1 s1 with
        | .nx ρ2 s2 => loopF ok tgt body ds ρ2 s2
        | .ct ρ2 s2 => loopF ok tgt body ds ρ2 s2
        | .bk ρ2 s2 => .nx ρ2 s2
        | r => r
    else .no
noncomputable def sFor (mi : MI) (tgt : T) (body : S) : S := fun ρ st => thenS ρ (mi ρ st) fun wk s => loopF (okW wk.lk) tgt body wk.items ρ s
section
variable {X : Cx} {TZ : Tabz} {F : Fx} {W : WX}
theorem rs_for {tg iter : Expr} {body : List Stmt} {mi : MI} {tgt : T} {mb : S} {pos : Pos} (hp : PassesOwn (model X.prog X.w) X.A X.env X.xe) (hc : X.calm = true) (hi : RI X TZ F W tg iter mi) (hg : RG X TZ F tg tgt) (hb : RSs X TZ F W body mb)
    (hs : ∀ x, foldedSetIterable iter X.env x = pure x := by intro _; rfl) : RS X TZ F W (.For tg iter body [] pos) (sFor mi tgt mb) := by
  obtain ⟨wi, hwi, kwi⟩ := hi.ex
  obtain ⟨t, hgt, kg⟩ := hg
  refine PS.imp (ps_for hp hc hwi hgt hb hs) fun E σ H ⟨θ, st, ρ, hR, hE, q⟩ => ?_
  refine kwi σ H θ st ρ _ hR hE (Res.thenS hE q fun θ1 wk s1 J H1 p1 k1 R1 r1 h1 => ?_)
  refine ⟨fun i m σ' H' => m = wk.items.length - i ∧ i ≤ wk.items.length ∧ ∃ (θ' : List Addr) (st' : Sto) (ρ' : En), θ1 <+: θ' ∧ Keep H1 H' ∧ Rel (gx X TZ) θ' st' H' ∧ EnvR (gx X TZ) F θ' H' ρ' σ' ∧ ResS (gx X TZ) F W θ' H' (loopF (okW wk.lk) tgt mb (wk.items.drop i) ρ' st') E,
    ⟨_, rfl, Nat.zero_le _, θ1, s1, ρ, List.prefix_refl _, Keep.refl _, R1, hE.step p1 k1, h1⟩, ?_⟩
  rintro i m σ2 H2 ⟨rfl, hi, θ2, st2, ρ2, p2, k2, R2, E2, q2⟩
  by_cases hlt : i < wk.items.length
  · rw [List.drop_eq_getElem_cons hlt] at q2
    unfold loopF at q2
    split at q2
    · rename_i hok
      have it := (r1 θ2 st2 H2 p2 k2 R2 hok).2 i _ (List.getElem?_eq_getElem hlt)
      refine .inr ⟨it.1, fun σ' H' => ∃ (θ' : List Addr) (st' : Sto) (ρ' : En), θ1 <+: θ' ∧ Keep H1 H' ∧ Rel (gx X TZ) θ' st' H' ∧ EnvR (gx X TZ) F θ' H' ρ' σ' ∧ ResS (gx X TZ) F W θ' H' (loopF (okW wk.lk) tgt mb (wk.items.drop (i + 1)) ρ' st') E,
        fun σ' H' z => ⟨_, by omega, rfl, hlt, z⟩, fun x H3 y => ?_⟩
      obtain ⟨k3, R3, r3⟩ := it.2 x H3 y
      split at q2
      · exact q2.elim
      · rename_i ρ3 s3 e3
        refine kg θ2 st2 s3 ρ2 ρ3 σ2 H3 _ x _ R3 (E2.step (List.prefix_refl _) k3) r3 e3 fun θ4 σ4 H4 p4 k4 R4 E4 => ⟨θ4, s3, ρ3, R4, E4, ?_⟩
        have p24 := p2.trans p4
        have k24 := (k2.trans k3).trans k4
        cases e5 : mb ρ3 s3 with
        | no => rw [e5] at q2; exact q2
        | nx ρ5 s5 => rw [e5] at q2; exact fun θ5 σ5 H5 p5 k5 R5 E5 => ⟨θ5, s5, ρ5, p24.trans p5, k24.trans k5, R5, E5, ResS.step (r := loopF (okW wk.lk) tgt mb (wk.items.drop (i + 1)) ρ5 s5) (p4.trans p5) ((k3.trans k4).trans k5) q2⟩
        | ct ρ5 s5 => rw [e5] at q2; exact fun θ5 σ5 H5 p5 k5 R5 E5 => ⟨θ5, s5, ρ5, p24.trans p5, k24.trans k5, R5, E5, ResS.step (r := loopF (okW wk.lk) tgt mb (wk.items.drop (i + 1)) ρ5 s5) (p4.trans p5) ((k3.trans k4).trans k5) q2⟩
        | bk ρ5 s5 => rw [e5] at q2; exact fun θ5 σ5 H5 p5 k5 R5 E5 => q2 θ5 σ5 H5 (p4.trans p5) ((k3.trans k4).trans k5) R5 E5
        | rt d s5 => rw [e5] at q2; exact ResS.step (r := .rt d s5) p4 (k3.trans k4) q2
        | ex c d ρ5 s5 => rw [e5] at q2; exact ResS.step (r := .ex c d ρ5 s5) p4 (k3.trans k4) q2
    · exact q2.elim
  · have he : i = wk.items.length := by omega
    rw [List.drop_eq_nil_of_le (by omega)] at q2
    unfold loopF at q2
    split at q2
    · rename_i hok
      exact .inl ⟨(r1 θ2 st2 H2 p2 k2 R2 hok).1 i he, q2 θ2 σ2 H2 (List.prefix_refl _) (Keep.refl _) R2 E2⟩
    · exact q2.elim
/-! while -/
def whileN (t : B) (body : S) : Nat → S
  | 0, _, _ => .no
  | n + 1, ρ, st => thenS ρ (t ρ st) fun b s => if b = true then
      match body ρ s with
      | .nx ρ' s' => whileN t body n ρ' s'
      | .ct ρ' s' => whileN t body n ρ' s'
      | .bk ρ' s' => .nx ρ' s'
      | r => r
    else .nx ρ s
theorem whileN_mono {t : B} {body : S} : ∀ {n : Nat} {ρ : En} {st : Sto}, whileN t body n ρ st ≠ .no → whileN t body (n + 1) ρ st = whileN t body n ρ st
  | 0, _, _, h => absurd rfl h
  | n + 1, ρ, st, h => by
    have ih : ∀ {ρ : En} {st : Sto}, whileN t body n ρ st ≠ .no → whileN t body (n + 1) ρ st = whileN t body n ρ st := whileN_mono
    rw [whileN] at h ⊢
    conv => rhs; rw [whileN]
    unfold thenS at h ⊢
    cases e : t ρ st with
    | no => rfl
    | ex c d s => rfl
    | ok b s =>
      rw [e] at h
      simp only at h ⊢
      cases b with
      | false => rfl
      | true =>
        rw [if_pos rfl] at h
        rw [if_pos rfl, if_pos rfl]
        cases e2 : body ρ s with
        | nx ρ' s' => rw [e2] at h; exact ih h
        | ct ρ' s' => rw [e2] at h; exact ih h
        | _ => rfl
theorem whileN_le {t : B} {body : S} {n m : Nat} {ρ : En} {st : Sto} (h : whileN t body n ρ st ≠ .no) (l : n ≤ m) : whileN t body m ρ st = whileN t body n ρ st := by
  induction l with
  | refl => rfl
  | step l ih => rw [whileN_mono (by rw [ih]; exact h), ih]
open Classical in
noncomputable def sWhile (t : B) (body : S) : S := fun ρ st => if h : ∃ n, whileN t body n ρ st ≠ .no then whileN t body h.choose ρ st else .no
theorem sWhile_of {t : B} {body : S} {n : Nat} {ρ : En} {st : Sto} {r : RO} (h : whileN t body n ρ st = r) (hr : r ≠ .no) : sWhile t body ρ st = r := by
  have hx : ∃ n, whileN t body n ρ st ≠ .no := ⟨n, by rw [h]; exact hr⟩
  unfold sWhile
  rw [dif_pos hx]
  have h1 := hx.choose_spec
  rcases Nat.le_total n hx.choose with l | l
  · rw [whileN_le (by rw [h]; exact hr) l, h]
  · rw [← whileN_le h1 l, h]
theorem sWhile_eq (t : B) (body : S) (ρ : En) (st : Sto) : sWhile t body ρ st = thenS ρ (t ρ st) fun b s => if b = true then
      match body ρ s with
      | .nx ρ' s' => sWhile t body ρ' s'
      | .ct ρ' s' => sWhile t body ρ' s'
      | .bk ρ' s' => .nx ρ' s'
      | r => r
    else .nx ρ s := by
  have key : ∀ (ρ : En) (st : Sto), ∃ n, ∀ m, n ≤ m → whileN t body m ρ st = sWhile t body ρ st := by
    intro ρ st
    by_cases hx : ∃ n, whileN t body n ρ st ≠ .no
    · refine ⟨hx.choose, fun m l => ?_⟩
      unfold sWhile
      rw [dif_pos hx, whileN_le hx.choose_spec l]
    · refine ⟨0, fun m _ => ?_⟩
      unfold sWhile
      rw [dif_neg hx]
      exact Classical.byContradiction fun z => hx ⟨m, z⟩
  obtain ⟨n, hn⟩ := key ρ st
  rw [← hn (n + 1) (by omega)]
  cases e : t ρ st with
  | no => rw [whileN, e]; rfl
  | ex c d s => rw [whileN, e]; rfl
  | ok b s =>
    cases b with
    | false => rw [whileN, e]; rfl
    | true =>
      have go : ∀ m, whileN t body (m + 1) ρ st = match body ρ s with
          | .nx ρ' s' => whileN t body m ρ' s'
          | .ct ρ' s' => whileN t body m ρ' s'
          | .bk ρ' s' => .nx ρ' s'
          | r => r := fun m => by rw [whileN, e]; rfl
      show whileN t body (n + 1) ρ st = match body ρ s with
          | .nx ρ' s' => sWhile t body ρ' s'
          | .ct ρ' s' => sWhile t body ρ' s'
          | .bk ρ' s' => .nx ρ' s'
          | r => r
      cases e2 : body ρ s with
      | nx ρ' s' =>
        obtain ⟨n2, h2⟩ := key ρ' s'
        rw [hn (n + 1) (by omega), ← hn (max n n2 + 1) (by omega), go, e2]
        exact h2 _ (by omega)
      | ct ρ' s' =>
        obtain ⟨n2, h2⟩ := key ρ' s'
        rw [hn (n + 1) (by omega), ← hn (max n n2 + 1) (by omega), go, e2]
        exact h2 _ (by omega)
      | _ => rw [go, e2]
theorem rs_while {c : Expr} {body : List Stmt} {mt : B} {mb : S} {pos : Pos} (hp : PassesOwn (model X.prog X.w) X.A X.env X.xe) (hc : RT X TZ F W c mt) (hb : RSs X TZ F W body mb) : RS X TZ F W (.While c body [] pos) (sWhile mt mb) := by
  refine PS.imp (ps_while hp hc hb) fun E σ H ⟨θ, st, ρ, hR, hE, q⟩ => ?_
  have hn : ∃ n, ResS (gx X TZ) F W θ H (whileN mt mb n ρ st) E := by
    unfold sWhile at q
    split at q
    · rename_i h
      exact ⟨_, q⟩
    · exact q.elim
  obtain ⟨n, q⟩ := hn
  refine ⟨fun n σ H => ∃ (θ : List Addr) (st : Sto) (ρ : En), Rel (gx X TZ) θ st H ∧ EnvR (gx X TZ) F θ H ρ σ ∧ ResS (gx X TZ) F W θ H (whileN mt mb n ρ st) E, ⟨n, θ, st, ρ, hR, hE, q⟩, ?_⟩
  rintro n σ H ⟨θ, st, ρ, hR, hE, q⟩
  cases n with
  | zero => exact q.elim
  | succ n =>
    rw [whileN] at q
    refine ⟨θ, st, ρ, hR, hE, Res.thenS hE q fun θ1 b s1 c H1 p1 k1 R1 r1 h1 => ?_⟩
    cases r1
    cases b with
    | false => rw [if_neg (by simp)] at h1 ⊢; exact h1 θ1 σ H1 (List.prefix_refl _) (Keep.refl _) R1 (hE.step p1 k1)
    | true =>
      rw [if_pos rfl] at h1 ⊢
      refine ⟨fun σ H => ∃ (θ : List Addr) (st : Sto) (ρ : En), Rel (gx X TZ) θ st H ∧ EnvR (gx X TZ) F θ H ρ σ ∧ ResS (gx X TZ) F W θ H (whileN mt mb n ρ st) E, fun σ' H' z => ⟨n, by omega, z⟩, ⟨θ1, s1, ρ, R1, hE.step p1 k1, ?_⟩⟩
      cases e5 : mb ρ s1 with
      | no => rw [e5] at h1; exact h1
      | nx ρ5 s5 => rw [e5] at h1; exact fun θ5 σ5 H5 p5 k5 R5 E5 => ⟨θ5, s5, ρ5, R5, E5, ResS.step (r := whileN mt mb n ρ5 s5) p5 k5 h1⟩
      | ct ρ5 s5 => rw [e5] at h1; exact fun θ5 σ5 H5 p5 k5 R5 E5 => ⟨θ5, s5, ρ5, R5, E5, ResS.step (r := whileN mt mb n ρ5 s5) p5 k5 h1⟩
      | bk ρ5 s5 => rw [e5] at h1; exact h1
      | rt d s5 => rw [e5] at h1; exact h1
      | ex c d ρ5 s5 => rw [e5] at h1; exact h1
end
end Rg

/-! what loops walk; list comprehensions -/
namespace Rg
open PySem PySem.Spec PyProof.Rows L2 Fs
def walkM (d : D) (st : Sto) : Option (Wk × Sto) := match d with
  | .tup xs => some (⟨xs, []⟩, st)
  | .ref n => match st[n]? with
    | some (.lst xs) => some (⟨xs, [(n, xs)]⟩, st)
    | _ => none
  | .str z => some (⟨z.cps.toList.map fun c => .str ⟨#[c]⟩, []⟩, st)
  | _ => none
def rangeL (lo : Int) (n : Nat) : List D := (List.range n).map fun i => .int (lo + (i : Nat))
def in62 (i : Int) : Bool := decide (-4611686018427387904 ≤ i) && decide (i < 4611686018427387904)
theorem in62_iff {i : Int} : in62 i = true ↔ -(2 ^ 62) ≤ i ∧ i < 2 ^ 62 := by
  unfold in62
  rw [Bool.and_eq_true, decide_eq_true_eq, decide_eq_true_eq]
  constructor <;> (rintro ⟨a, b⟩; constructor <;> omega)
def rangeM1 (ds : List D) (st : Sto) : Option (Wk × Sto) := match ds with
  | [.int j] => if in62 j = true then some (⟨rangeL 0 j.toNat, []⟩, st) else none
  | _ => none
def rangeM2 (ds : List D) (st : Sto) : Option (Wk × Sto) := match ds with
  | [.int i, .int j] => if (in62 i && in62 j) = true then some (⟨rangeL i (j - i).toNat, []⟩, st) else none
  | _ => none
def enumL : Nat → List D → List D
  | _, [] => []
  | k, d :: ds => .wt [.int (k : Nat), d] :: enumL (k + 1) ds
def zipL : List D → List D → List D
  | x :: xs, y :: ys => .wt [x, y] :: zipL xs ys
  | _, _ => []
def enumM (ds : List D) (st : Sto) : Option (Wk × Sto) := match ds with
  | [.tup xs] => some (⟨enumL 0 xs, []⟩, st)
  | [.ref n] => match st[n]? with
    | some (.lst xs) => some (⟨enumL 0 xs, [(n, xs)]⟩, st)
    | _ => none
  | _ => none
def zipM (ds : List D) (st : Sto) : Option (Wk × Sto) := match ds with
  | [.tup xs, .tup ys] => some (⟨zipL xs ys, []⟩, st)
  | [.ref n, .ref m] => match st[n]?, st[m]? with
    | some (.lst xs), some (.lst ys) => some (⟨zipL xs ys, [(n, xs), (m, ys)]⟩, st)
    | _, _ => none
  | _ => none
def wSeq (m : C) : MI := fun ρ st => (m ρ st).bind fun d s => lift (walkM d s)
def wArg (f : List D → Sto → Option (Wk × Sto)) (r : AL) : MI := fun ρ st => (r ρ st).bind fun ds s => lift (f ds s)
theorem enumL_get : ∀ {xs : List D} {k i : Nat} {d : D}, (enumL k xs)[i]? = some d → ∃ x, xs[i]? = some x ∧ d = .wt [.int ((k + i : Nat) : Int), x]
  | [], k, i, d, h => by unfold enumL at h; simp at h
  | x :: xs, k, 0, d, h => by
    unfold enumL at h
    simp at h
    exact ⟨x, rfl, h.symm⟩
  | x :: xs, k, i + 1, d, h => by
    unfold enumL at h
    obtain ⟨y, e, z⟩ := enumL_get (xs := xs) (k := k + 1) (i := i) (d := d) (by simpa using h)
    exact ⟨y, by simpa using e, by rw [z, show k + 1 + i = k + (i + 1) by omega]⟩
theorem enumL_len : ∀ {xs : List D} {k : Nat}, (enumL k xs).length = xs.length
  | [], _ => rfl
  | x :: xs, k => by unfold enumL; rw [List.length_cons, List.length_cons, enumL_len]
theorem zipL_get : ∀ {xs ys : List D} {i : Nat} {d : D}, (zipL xs ys)[i]? = some d → ∃ x y, xs[i]? = some x ∧ ys[i]? = some y ∧ d = .wt [x, y]
  | [], _, i, d, h => by unfold zipL at h; simp at h
  | _ :: _, [], i, d, h => by unfold zipL at h; simp at h
  | x :: xs, y :: ys, 0, d, h => by
    unfold zipL at h
    simp at h
    exact ⟨x, y, rfl, rfl, h.symm⟩
  | x :: xs, y :: ys, i + 1, d, h => by
    unfold zipL at h
    obtain ⟨a, b, e1, e2, z⟩ := zipL_get (xs := xs) (ys := ys) (i := i) (d := d) (by simpa using h)
    exact ⟨a, b, by simpa using e1, by simpa using e2, z⟩
theorem zipL_len : ∀ {xs ys : List D}, (zipL xs ys).length = min xs.length ys.length
  | [], ys => by unfold zipL; simp
  | x :: xs, [] => by unfold zipL; simp
  | x :: xs, y :: ys => by
    unfold zipL
    rw [List.length_cons, List.length_cons, List.length_cons, zipL_len]
    omega
section
variable {G : Gx} {θ : List Addr} {st : Sto} {H : Hp}
theorem Rel.lst_at (R : Rel G θ st H) {n : Nat} {xs : List D} {a : Addr} (hn : st[n]? = some (.lst xs)) (ha : θ[n]? = some a) : ∃ vs, H a = some (.lst vs) ∧ RepVs G.K θ H xs vs := by
  obtain ⟨b, vs, h1, h2, h3⟩ := R.at hn
  rw [ha] at h1
  cases h1
  exact ⟨vs, h2, h3⟩
theorem itok_list {n : Nat} {xs : List D} {a : Addr} (ha : θ[n]? = some a) : ItOk G θ H ⟨xs, [(n, xs)]⟩ (Itl G.K a) := by
  intro θ2 s2 H2 p k R2 ok
  obtain ⟨vs, e, r⟩ := R2.lst_at (ok (n, xs) (by simp)) (pre_get p ha)
  have hl := r.length
  refine ⟨fun i hi => ⟨vs, SqL.of e, by rw [hi]; exact Nat.le_of_eq hl.symm⟩, fun i d hd => ?_⟩
  obtain ⟨v, hv, rv⟩ := r.get hd
  refine ⟨⟨vs, v, SqL.of e, hv⟩, fun x H' y => ?_⟩
  obtain ⟨eH, y⟩ := y
  subst eH
  have := y vs (SqL.of e)
  rw [hv] at this
  cases this
  exact ⟨Keep.refl _, R2, rv⟩
theorem itok_tup {xs : List D} {vs : List V} {a : Addr} (hs : SqT G.K H a vs) (r : RepVs G.K θ H xs vs) : ItOk G θ H ⟨xs, []⟩ (Itt G.K a) := by
  intro θ2 s2 H2 p k R2 ok
  have hs2 := k.sqT hs
  have r2 := r.step p k
  have hl := r2.length
  refine ⟨fun i hi => ⟨vs, hs2, by rw [hi]; exact Nat.le_of_eq hl.symm⟩, fun i d hd => ?_⟩
  obtain ⟨v, hv, rv⟩ := r2.get hd
  refine ⟨⟨vs, v, hs2, hv⟩, fun x H' y => ?_⟩
  obtain ⟨eH, y⟩ := y
  subst eH
  have := y vs hs2
  rw [hv] at this
  cases this
  exact ⟨Keep.refl _, R2, rv⟩
theorem itok_str {z : Str} : ItOk G θ H ⟨z.cps.toList.map fun c => .str ⟨#[c]⟩, []⟩ (Its z) := by
  intro θ2 s2 H2 p k R2 ok
  refine ⟨fun i hi => ?_, fun i d hd => ?_⟩
  · have hi : i = (z.cps.toList.map fun c => D.str ⟨#[c]⟩).length := hi
    rw [List.length_map, Array.length_toList] at hi
    exact Nat.le_of_eq hi.symm
  · obtain ⟨c, hc, rfl⟩ := by simpa using hd
    have hl : i < z.cps.size := (Array.getElem?_eq_some_iff.mp hc).1
    refine ⟨hl, fun x H' y => ?_⟩
    obtain ⟨eH, c', hc', rfl⟩ := y
    subst eH
    rw [hc] at hc'
    cases hc'
    exact ⟨Keep.refl _, R2, rep_str.mpr rfl⟩
theorem itok_range {lo : Int} {n : Nat} : ItOk G θ H ⟨rangeL lo n, []⟩ (Itr lo n) := by
  intro θ2 s2 H2 p k R2 ok
  refine ⟨fun i hi => ?_, fun i d hd => ?_⟩
  · have hi : i = (rangeL lo n).length := hi
    unfold rangeL at hi
    rw [List.length_map, List.length_range] at hi
    exact Nat.le_of_eq hi.symm
  · have hd : (rangeL lo n)[i]? = some d := hd
    unfold rangeL at hd
    rw [List.getElem?_map] at hd
    have hl : i < n := by
      by_cases z : i < n
      · exact z
      · rw [List.getElem?_eq_none (by simp; omega)] at hd
        cases hd
    rw [List.getElem?_range hl] at hd
    cases hd
    refine ⟨hl, fun x H' y => ?_⟩
    obtain ⟨eH, rfl⟩ := y
    subst eH
    exact ⟨Keep.refl _, R2, rep_int.mpr rfl⟩
theorem pair_new {θ2 : List Addr} {s2 : Sto} {H2 : Hp} {T : Addr} {x y : V} {d e : D} (R2 : Rel G θ2 s2 H2) (hT : H2 T = none) (r1 : RepV G.K θ2 H2 d x) (r2 : RepV G.K θ2 H2 e y) :
    Keep H2 (upd H2 T (.tup [x, y])) ∧ Rel G θ2 s2 (upd H2 T (.tup [x, y])) ∧ RepV G.K θ2 (upd H2 T (.tup [x, y])) (.wt [d, e]) (.ref T) :=
  have k := Keep.same (same_new (o := .tup [x, y]) hT)
  ⟨k, R2.new hT, rep_wt.mpr ⟨T, [x, y], rfl, upd_same, .cons (r1.step (List.prefix_refl _) k) (.cons (r2.step (List.prefix_refl _) k) .nil_iff)⟩⟩
theorem itok_enum {n : Nat} {xs : List D} {a : Addr} (ha : θ[n]? = some a) : ItOk G θ H ⟨enumL 0 xs, [(n, xs)]⟩ (Ite G.K a) := by
  intro θ2 s2 H2 p k R2 ok
  obtain ⟨vs, e, r⟩ := R2.lst_at (ok (n, xs) (by simp)) (pre_get p ha)
  have hl := r.length
  refine ⟨fun i hi => ⟨vs, SqL.of e, by rw [hi, enumL_len]; exact Nat.le_of_eq hl.symm⟩, fun i d hd => ?_⟩
  obtain ⟨d', hd', rfl⟩ := enumL_get hd
  obtain ⟨v, hv, rv⟩ := r.get hd'
  refine ⟨⟨vs, v, SqL.of e, hv⟩, fun x H' y => ?_⟩
  obtain ⟨T, x', rfl, hT, rfl, y⟩ := y
  have := y vs (SqL.of e)
  rw [hv] at this
  cases this
  exact pair_new R2 hT (rep_int.mpr (by simp)) rv
theorem itok_enumT {xs : List D} {vs : List V} {a : Addr} (hs : SqT G.K H a vs) (r : RepVs G.K θ H xs vs) : ItOk G θ H ⟨enumL 0 xs, []⟩ (IteT G.K a) := by
  intro θ2 s2 H2 p k R2 ok
  have hs2 := k.sqT hs
  have r2 := r.step p k
  have hl := r2.length
  refine ⟨fun i hi => ⟨vs, hs2, by rw [hi, enumL_len]; exact hl.symm⟩, fun i d hd => ?_⟩
  obtain ⟨d', hd', rfl⟩ := enumL_get hd
  obtain ⟨v, hv, rv⟩ := r2.get hd'
  refine ⟨⟨vs, v, hs2, hv⟩, fun x H' y => ?_⟩
  obtain ⟨T, x', rfl, hT, rfl, y⟩ := y
  have := y vs hs2
  rw [hv] at this
  cases this
  exact pair_new R2 hT (rep_int.mpr (by simp)) rv
theorem itok_zip {n m : Nat} {xs ys : List D} {a b : Addr} (ha : θ[n]? = some a) (hb : θ[m]? = some b) : ItOk G θ H ⟨zipL xs ys, [(n, xs), (m, ys)]⟩ (Itz G.K a b) := by
  intro θ2 s2 H2 p k R2 ok
  obtain ⟨vs, e, r⟩ := R2.lst_at (ok (n, xs) (by simp)) (pre_get p ha)
  obtain ⟨ws, e2, r2⟩ := R2.lst_at (ok (m, ys) (by simp)) (pre_get p hb)
  have hl : xs.length = vs.length := r.length
  have hl2 : ys.length = ws.length := r2.length
  refine ⟨fun i hi => ⟨vs, ws, SqL.of e, SqL.of e2, ?_⟩, fun i d hd => ?_⟩
  · have hi : i = (zipL xs ys).length := hi
    rw [zipL_len] at hi
    omega
  obtain ⟨d1, d2, h1, h2, rfl⟩ := zipL_get hd
  obtain ⟨v, hv, rv⟩ := r.get h1
  obtain ⟨w, hw, rw2⟩ := r2.get h2
  refine ⟨⟨vs, ws, v, w, SqL.of e, SqL.of e2, hv, hw⟩, fun x H' y => ?_⟩
  obtain ⟨T, x', y', rfl, hT, rfl, y1, y2⟩ := y
  have z1 := y1 vs (SqL.of e)
  have z2 := y2 ws (SqL.of e2)
  rw [hv] at z1
  rw [hw] at z2
  cases z1
  cases z2
  exact pair_new R2 hT rv rw2
theorem itok_zipT {xs ys : List D} {vs ws : List V} {a b : Addr} (e : SqT G.K H a vs) (r : RepVs G.K θ H xs vs) (e2 : SqT G.K H b ws) (r2 : RepVs G.K θ H ys ws) : ItOk G θ H ⟨zipL xs ys, []⟩ (RZ.ItzT G.K a b) := by
  intro θ2 s2 H2 p k R2 ok
  have e := k.sqT e
  have e2 := k.sqT e2
  have r := r.step p k
  have r2 := r2.step p k
  have hl : xs.length = vs.length := r.length
  have hl2 : ys.length = ws.length := r2.length
  refine ⟨fun i hi => ⟨vs, ws, e, e2, ?_⟩, fun i d hd => ?_⟩
  · have hi : i = (zipL xs ys).length := hi
    rw [zipL_len] at hi
    omega
  obtain ⟨d1, d2, h1, h2, rfl⟩ := zipL_get hd
  obtain ⟨v, hv, rv⟩ := r.get h1
  obtain ⟨w, hw, rw2⟩ := r2.get h2
  refine ⟨⟨vs, ws, v, w, e, e2, hv, hw⟩, fun x H' y => ?_⟩
  obtain ⟨T, x', y', rfl, hT, rfl, y1, y2⟩ := y
  have z1 := y1 vs e
  have z2 := y2 ws e2
  rw [hv] at z1
  rw [hw] at z2
  cases z1
  cases z2
  exact pair_new R2 hT rv rw2
end
section
variable {X : Cx} {TZ : Tabz} {F : Fx} {W : WX}
/-- an iterator's rule from what its reading asks of the values -/
theorem ri_seq {tg e : Expr} {m : C} (h : RE X TZ F W e m) : RI X TZ F W tg e (wSeq m) := by
  refine ⟨_, pi_or (pi_list h) (pi_or (pi_tup h) (pi_str h)), fun σ H θ st ρ R hR hE q => ?_⟩
  have go : ∀ {Q : VK}, (∀ (θ1 : List Addr) (d : D) (s1 : Sto) (v : V) (H1 : Hp), θ <+: θ1 → Keep H H1 → Rel (gx X TZ) θ1 s1 H1 → RepV X.K θ1 H1 d v → Res (gx X TZ) (fun θ' H' wk J => ItOk (gx X TZ) θ' H' wk J) W σ θ1 H1 (lift (walkM d s1)) R → Q v H1) →
      tM (gx X TZ) F W (rV (gx X TZ)) m σ H Q := fun k => ⟨θ, st, ρ, hR, hE, q.seq fun θ1 d s1 v H1 p1 k1 R1 r1 h1 => k θ1 d s1 v H1 p1 k1 R1 r1 h1⟩
  have q0 := q
  unfold wSeq at q0
  cases e0 : m ρ st with
  | no => rw [e0] at q0; exact q0.elim
  | ex c d s =>
    refine .inl ⟨θ, st, ρ, hR, hE, ?_⟩
    rw [e0] at q0 ⊢
    exact q0
  | ok d s =>
    cases d with
    | tup xs =>
      refine .inr (.inl ⟨θ, st, ρ, hR, hE, res_ok e0 fun θ1 v H1 p1 k1 R1 r1 => ?_⟩)
      rw [e0] at q0
      obtain ⟨a, vs, rfl, s1, r1⟩ := rep_tupE r1
      exact ⟨a, rfl, ⟨vs, s1⟩, q0 θ1 _ H1 p1 k1 R1 (itok_tup s1 r1)⟩
    | ref n =>
      refine .inl ⟨θ, st, ρ, hR, hE, res_ok e0 fun θ1 v H1 p1 k1 R1 r1 => ?_⟩
      rw [e0] at q0
      have q1 : Res (gx X TZ) (fun θ' H' wk J => ItOk (gx X TZ) θ' H' wk J) W σ θ H (lift (walkM (.ref n) s)) R := q0
      unfold walkM at q1
      simp only at q1
      split at q1
      · rename_i xs hx
        obtain ⟨a, vs, rfl, ha, e1, r2⟩ := R1.lstOf hx r1
        exact ⟨a, rfl, ⟨vs, SqL.of e1⟩, q1 θ1 _ H1 p1 k1 R1 (itok_list ha)⟩
      · exact q1.elim
    | str z =>
      refine .inr (.inr ⟨θ, st, ρ, hR, hE, res_ok e0 fun θ1 v H1 p1 k1 R1 r1 => ?_⟩)
      rw [e0] at q0
      cases rep_str.mp r1
      exact ⟨z, rfl, q0 θ1 _ H1 p1 k1 R1 itok_str⟩
    | non => rw [e0] at q0; exact q0.elim
    | bl b => rw [e0] at q0; exact q0.elim
    | int i => rw [e0] at q0; exact q0.elim
    | fl i => rw [e0] at q0; exact q0.elim
    | wt i => rw [e0] at q0; exact q0.elim
theorem ri_arg {tg iter : Expr} {es : List Expr} {r : AL} {f : List D → Sto → Option (Wk × Sto)} {wi : TI} (hp : PI X tg iter wi) (ha : RA X TZ F W es r)
    (hw : ∀ (σ : L2.St) (H : Hp) (R : It → Hp → Prop), (tM (gx X TZ) F W (rVs (gx X TZ)) r σ H fun vs H1 => ∃ (θ : List Addr) (st : Sto) (ds : List D), Rel (gx X TZ) θ st H1 ∧ RepVs X.K θ H1 ds vs ∧ Res (gx X TZ) (fun θ' H' wk J => ItOk (gx X TZ) θ' H' wk J) W σ θ H1 (lift (f ds st)) R) → wi σ H R) :
    RI X TZ F W tg iter (wArg f r) := by
  refine ⟨wi, hp, fun σ H θ st ρ R hR hE q => hw σ H R ⟨θ, st, ρ, hR, hE, ?_⟩⟩
  exact q.seq fun θ1 ds s1 vs H1 p1 k1 R1 r1 h1 => ⟨θ1, s1, ds, R1, r1, h1⟩
theorem rep_list1 {K : PySem.W.Frag} {θ : List Addr} {H : Hp} {d : D} {vs : List V} (h : RepVs K θ H [d] vs) : ∃ v, vs = [v] ∧ RepV K θ H d v := by
  unfold RepVs at h
  obtain ⟨v, r, rfl, h1, h2⟩ := h
  unfold RepVs at h2
  subst h2
  exact ⟨v, rfl, h1⟩
theorem rep_list2 {K : PySem.W.Frag} {θ : List Addr} {H : Hp} {d e : D} {vs : List V} (h : RepVs K θ H [d, e] vs) : ∃ v w, vs = [v, w] ∧ RepV K θ H d v ∧ RepV K θ H e w := by
  unfold RepVs at h
  obtain ⟨v, r, rfl, h1, h2⟩ := h
  obtain ⟨w, rfl, h3⟩ := rep_list1 h2
  exact ⟨v, w, rfl, h1, h3⟩
theorem res_liftI {θ : List Addr} {H : Hp} {σ : L2.St} {o : Option (Wk × Sto)} {R : It → Hp → Prop} (h : Res (gx X TZ) (fun θ' H' wk J => ItOk (gx X TZ) θ' H' wk J) W σ θ H (lift o) R) :
    ∃ wk s', o = some (wk, s') ∧ ∀ (θ' : List Addr) (J : It) (H' : Hp), θ <+: θ' → Keep H H' → Rel (gx X TZ) θ' s' H' → ItOk (gx X TZ) θ' H' wk J → R J H' := by
  cases o with
  | none => exact h.elim
  | some p => exact ⟨p.1, p.2, rfl, h⟩
theorem ri_range1 {tg a : Expr} {r : AL} {p pos : Pos} (hg : Gl X "range") (hm : X.mg "range" = none) (ha : RA X TZ F W [a] r) (hs : starEach [a] X.env = [(false, eval a X.env)] := by rfl) : RI X TZ F W tg (.Call (.Name "range" p) [a] [] pos) (wArg rangeM1 r) := by
  refine ri_arg (pi_range1 hg hm ha hs) ha fun σ H R ⟨θ, st, ρ, hR, hE, q⟩ => ?_
  refine tM_mono ⟨θ, st, ρ, hR, hE, q⟩ fun vs H1 ⟨θ1, s1, ds, R1, r1, h1⟩ => ?_
  obtain ⟨wk, s2, ew, q2⟩ := res_liftI h1
  unfold rangeM1 at ew
  split at ew
  · split at ew
    · rename_i j hj
      cases ew
      obtain ⟨v, rfl, rv⟩ := rep_list1 r1
      cases rep_int.mp rv
      obtain ⟨h1, h2⟩ := in62_iff.mp hj
      exact ⟨j, rfl, h1, h2, q2 θ1 _ H1 (List.prefix_refl _) (Keep.refl _) R1 itok_range⟩
    · cases ew
  · cases ew
theorem ri_range2 {tg a b : Expr} {r : AL} {p pos : Pos} (hg : Gl X "range") (hm : X.mg "range" = none) (ha : RA X TZ F W [a, b] r) (hs : starEach [a, b] X.env = [(false, eval a X.env), (false, eval b X.env)] := by rfl) (hs2 : starEach [b] X.env = [(false, eval b X.env)] := by rfl) : RI X TZ F W tg (.Call (.Name "range" p) [a, b] [] pos) (wArg rangeM2 r) := by
  refine ri_arg (pi_range2 hg hm ha hs hs2) ha fun σ H R ⟨θ, st, ρ, hR, hE, q⟩ => ?_
  refine tM_mono ⟨θ, st, ρ, hR, hE, q⟩ fun vs H1 ⟨θ1, s1, ds, R1, r1, h1⟩ => ?_
  obtain ⟨wk, s2, ew, q2⟩ := res_liftI h1
  unfold rangeM2 at ew
  split at ew
  · split at ew
    · rename_i i j hj
      cases ew
      obtain ⟨v, w, rfl, rv, rw2⟩ := rep_list2 r1
      cases rep_int.mp rv
      cases rep_int.mp rw2
      rw [Bool.and_eq_true] at hj
      obtain ⟨h1, h2⟩ := in62_iff.mp hj.1
      obtain ⟨h3, h4⟩ := in62_iff.mp hj.2
      exact ⟨i, j, rfl, ⟨h1, h2, h3, h4⟩, q2 θ1 _ H1 (List.prefix_refl _) (Keep.refl _) R1 itok_range⟩
    · cases ew
  · cases ew
theorem ri_enum {e : Expr} {r : AL} {p pos tpos : Pos} {elts : List Expr} {kk : Nat} (hg : Gl X "enumerate") (hm : X.mg "enumerate" = none) (ha : RA X TZ F W [e] r) (hs : starEach [e] X.env = [(false, eval e X.env)] := by rfl) : RI X TZ F W (.Tuple elts kk tpos) (.Call (.Name "enumerate" p) [e] [] pos) (wArg enumM r) := by
  refine ⟨_, pi_or (pi_enum hg hm ha hs) (pi_enumT hg hm ha hs), fun σ H θ st ρ R hR hE q => ?_⟩
  have q0 := q
  unfold wArg at q0
  cases e0 : r ρ st with
  | no => rw [e0] at q0; exact q0.elim
  | ex c d s =>
    refine .inl ⟨θ, st, ρ, hR, hE, ?_⟩
    rw [e0] at q0 ⊢
    exact q0
  | ok ds s =>
    rw [e0] at q0
    obtain ⟨wk, s2, ew, q2⟩ := res_liftI q0
    unfold enumM at ew
    split at ew
    · cases ew
      refine .inr ⟨θ, st, ρ, hR, hE, res_ok e0 fun θ1 v H1 p1 k1 R1 r1 => ?_⟩
      obtain ⟨v, rfl, rv⟩ := rep_list1 r1
      obtain ⟨a, vs, rfl, s1, r1⟩ := rep_tupE rv
      exact ⟨a, vs, rfl, s1, q2 θ1 _ H1 p1 k1 R1 (itok_enumT s1 r1)⟩
    · split at ew
      · rename_i n xs hx
        cases ew
        refine .inl ⟨θ, st, ρ, hR, hE, res_ok e0 fun θ1 v H1 p1 k1 R1 r1 => ?_⟩
        obtain ⟨v, rfl, rv⟩ := rep_list1 r1
        obtain ⟨a, vs, rfl, ha, e1, r2⟩ := R1.lstOf hx rv
        exact ⟨a, vs, rfl, SqL.of e1, q2 θ1 _ H1 p1 k1 R1 (itok_enum ha)⟩
      · cases ew
    · cases ew
theorem ri_zip {e e2 : Expr} {r : AL} {p pos tpos : Pos} {elts : List Expr} {kk : Nat} (hg : Gl X "zip") (hm : X.mg "zip" = none) (ha : RA X TZ F W [e, e2] r)
    (hs : starEach [e, e2] X.env = (false, eval e X.env) :: starEach [e2] X.env := by rfl) (hpl : (backTo pos (starEach [e2] X.env)).any (·.1) = false := by rfl) : RI X TZ F W (.Tuple elts kk tpos) (.Call (.Name "zip" p) [e, e2] [] pos) (wArg zipM r) := by
  refine ⟨_, RZ.pi_zipA hg hm ha hs hpl, fun σ H θ st ρ R hR hE q => ⟨θ, st, ρ, hR, hE, q.seq fun θ1 ds s1 vs H1 p1 k1 R1 r1 h1 => ?_⟩⟩
  obtain ⟨wk, s2, ew, q2⟩ := res_liftI h1
  unfold zipM at ew
  split at ew
  · cases ew
    obtain ⟨v, w, rfl, rv, rw2⟩ := rep_list2 r1
    obtain ⟨a, vs, rfl, z1, y1⟩ := rep_tupE rv
    obtain ⟨b, ws, rfl, z2, y2⟩ := rep_tupE rw2
    exact ⟨a, b, vs, ws, rfl, .inr ⟨z1, z2, q2 θ1 _ H1 (List.prefix_refl _) (Keep.refl _) R1 (itok_zipT z1 y1 z2 y2)⟩⟩
  · split at ew
    · rename_i hx hy
      cases ew
      obtain ⟨v, w, rfl, rv, rw2⟩ := rep_list2 r1
      obtain ⟨a, vs, rfl, ha, e1, r2⟩ := R1.lstOf hx rv
      obtain ⟨b, ws, rfl, hb, e2, r3⟩ := R1.lstOf hy rw2
      exact ⟨a, b, vs, ws, rfl, .inl ⟨SqL.of e1, SqL.of e2, q2 θ1 _ H1 (List.prefix_refl _) (Keep.refl _) R1 (itok_zip ha hb)⟩⟩
    · cases ew
  · cases ew
end
/-! ### list comprehensions -/
def wipeM (ρ : En) : List Nat → En
  | [] => ρ
  | v :: vs => (wipeM ρ vs).set v none
/-- no functions in the slots -/
abbrev Fe (X : Cx) : Fx := ⟨X.s_0, X.H_0, 0, [], none⟩
abbrev We : WX := fun _ _ _ _ => False
theorem EnvR.wipe {G : Gx} {F F' : Fx} {θ : List Addr} {H : Hp} {ρ : En} {σ : L2.St} (hF : F'.cl = []) (hX : F'.ex = none) (h : EnvR G F θ H ρ σ) : ∀ vs : List Nat, EnvR G F' θ H (wipeM ρ vs) (L2.wipe σ vs)
  | [] => ⟨h.len, h.has, fun i φ e => (by rw [hF] at e; cases e), fun i a dd d e => (by rw [hX] at e; cases e)⟩
  | v :: vs => by
    have ih := EnvR.wipe hF hX h vs
    unfold wipeM L2.wipe
    refine ⟨by rw [List.length_set, List.length_set]; exact ih.len, fun i d e => ?_, fun i φ e => (by rw [hF] at e; cases e), fun i a dd d e => (by rw [hX] at e; cases e)⟩
    by_cases hi : i = v
    · subst hi
      have hl : i < (wipeM ρ vs).length := by
        have := (List.getElem?_eq_some_iff.mp e).1
        rw [List.length_set] at this
        exact this
      rw [List.getElem?_set_self hl] at e
      cases e
    · rw [List.getElem?_set_ne (Ne.symm hi)] at e
      obtain ⟨w, e1, r1⟩ := ih.has i d e
      exact ⟨w, by rw [List.getElem?_set_ne (Ne.symm hi)]; exact e1, r1⟩
theorem wipe_get {σ : L2.St} : ∀ {vs : List Nat} {i : Nat}, i ∉ vs → (L2.wipe σ vs)[i]? = σ[i]?
  | [], _, _ => rfl
  | v :: vs, i, h => by
    unfold L2.wipe
    simp only [List.mem_cons, not_or] at h
    rw [List.getElem?_set_ne (Ne.symm h.1)]
    exact wipe_get h.2
theorem wipe_in {σ : L2.St} : ∀ {vs : List Nat} {i : Nat}, i ∈ vs → (L2.wipe σ vs)[i]? = if i < σ.length then some none else none
  | v :: vs, i, h => by
    unfold L2.wipe
    by_cases hi : i = v
    · subst hi
      by_cases hl : i < σ.length
      · rw [List.getElem?_set_self (by rw [wipe_length]; exact hl), if_pos hl]
      · rw [if_neg hl, List.getElem?_eq_none (by rw [List.length_set, wipe_length]; omega)]
    · rw [List.getElem?_set_ne (Ne.symm hi)]
      exact wipe_in ((List.mem_cons.mp h).resolve_left hi)
theorem wipe_set {σ : L2.St} {vs : List Nat} {i : Nat} {o : Option V} (h : i ∈ vs) : L2.wipe (σ.set i o) vs = L2.wipe σ vs := by
  apply List.ext_getElem?
  intro j
  by_cases hj : j ∈ vs
  · rw [wipe_in hj, wipe_in hj, List.length_set]
  · rw [wipe_get hj, wipe_get hj, List.getElem?_set_ne (fun z => hj (by subst z; exact h))]
theorem wipe_wipe {σ : L2.St} {vs : List Nat} : L2.wipe (L2.wipe σ vs) vs = L2.wipe σ vs := by
  apply List.ext_getElem?
  intro j
  by_cases hj : j ∈ vs
  · rw [wipe_in hj, wipe_in hj, wipe_length]
  · rw [wipe_get hj]
noncomputable def loopC (ok : Sto → Prop) (n0 : Nat) (tgt : T) (mt : B) (me : C) (ρ0 : En) : List D → List D → Sto → Option Sto
  | [], acc, st => haveI := Classical.propDecidable; if ok st ∧ st[n0]? = some (.lst acc) then some st else none
  | d :: ds, acc, st => haveI := Classical.propDecidable; if ok st then
      match tgt d ρ0 st with
      | none => none
      | some (ρ1, s1) => match mt ρ1 s1 with
        | .ok b s2 => if b = true then
            match me ρ1 s2 with
            | .ok x s3 => if s3[n0]? = some (.lst acc) ∧ acc.length < sizeLine then loopC ok n0 tgt mt me ρ0 ds (acc ++ [x]) (s3.set n0 (.lst (acc ++ [x]))) else none
            | _ => none
          else loopC ok n0 tgt mt me ρ0 ds acc s2
        | _ => none
    else none
noncomputable def cLc (mi : MI) (own : List Nat) (tgt : T) (mt : B) (me : C) : C := fun ρ st => (mi ρ st).bind fun wk s =>
  match loopC (okW wk.lk) s.length tgt mt me (wipeM ρ own) wk.items [] (s ++ [.lst []]) with
  | some s' => .ok (.ref s.length) s'
  | none => .no
def bYes : B := fun _ st => .ok true st
section
variable (X : Cx) (TZ : Tabz)
abbrev BlkX (X : Cx) (scope : Scope) (s : Shared) (H : Hp) (C : Addr) (cl : List (Str × Addr)) (fp : List Addr) : Cx := X.blk s H scope (compEnvC scope cl C X.env) fp
/-- a target within a comprehension: it stores to the block's own names alone -/
def RGw (scope : Scope) (own : List Nat) (e : Expr) (g : T) : Prop := ∃ t : TG, (∀ s H C cl fp, PG (BlkX X scope s H C cl fp) e t) ∧
  ∀ (θ : List Addr) (st s' : Sto) (ρ ρ' : En) (σ : L2.St) (H : Hp) (d : D) (v : V) (Q : L2.St → Hp → Prop), Rel (gx X TZ) θ st H → EnvR (gx X TZ) (Fe X) θ H ρ σ → RepV X.K θ H d v → g d ρ st = some (ρ', s') →
  (∀ (θ' : List Addr) (σ' : L2.St) (H' : Hp), θ <+: θ' → Keep H H' → Rel (gx X TZ) θ' s' H' → EnvR (gx X TZ) (Fe X) θ' H' ρ' σ' → L2.wipe σ' own = L2.wipe σ own → Q σ' H') → t v σ H Q
def RGws (scope : Scope) (own : List Nat) (es : List Expr) (g : List D → En → Sto → Option (En × Sto)) : Prop := ∃ t : TGs, (∀ s H C cl fp, PGs (BlkX X scope s H C cl fp) es t) ∧
  ∀ (θ : List Addr) (st s' : Sto) (ρ ρ' : En) (σ : L2.St) (H : Hp) (d : List D) (v : List V) (Q : L2.St → Hp → Prop), Rel (gx X TZ) θ st H → EnvR (gx X TZ) (Fe X) θ H ρ σ → RepVs X.K θ H d v → g d ρ st = some (ρ', s') →
  (∀ (θ' : List Addr) (σ' : L2.St) (H' : Hp), θ <+: θ' → Keep H H' → Rel (gx X TZ) θ' s' H' → EnvR (gx X TZ) (Fe X) θ' H' ρ' σ' → L2.wipe σ' own = L2.wipe σ own → Q σ' H') → t v σ H Q
end
section
variable {X : Cx} {TZ : Tabz} {F : Fx} {W : WX} {scope : Scope} {own : List Nat}
theorem rgw_name {i : Nat} {x : Str} {pos : Pos} (h : ∀ s H C cl fp, PG (BlkX X scope s H C cl fp) (.Name x pos) (gName i)) (hi : i ∈ own := by simp) : RGw X TZ scope own (.Name x pos) (tN i) :=
  ⟨_, h, fun θ st s' ρ ρ' σ H d v Q hR hE r e q => by
    cases e
    exact q θ _ H (List.prefix_refl _) (Keep.refl _) hR (hE.set i rfl r) (wipe_set hi)⟩
theorem rgws_nil : RGws X TZ scope own [] tsNil := ⟨_, fun _ _ _ _ _ => pgs_nil, fun θ st s' ρ ρ' σ H d v Q hR hE r e q => by
  unfold tsNil at e
  split at e
  · rename_i h
    cases e
    have hd : d = [] := List.isEmpty_iff.mp h
    subst hd
    unfold RepVs at r
    exact ⟨r, q θ σ H (List.prefix_refl _) (Keep.refl _) hR hE rfl⟩
  · cases e⟩
theorem rgws_cons {e : Expr} {es : List Expr} {g : T} {r : List D → En → Sto → Option (En × Sto)} (h1 : RGw X TZ scope own e g) (h2 : RGws X TZ scope own es r) (hs : ∀ s H C cl fp, (assignEach (e :: es) (BlkX X scope s H C cl fp).env).map (·.2) = assign e (BlkX X scope s H C cl fp).env :: (assignEach es (BlkX X scope s H C cl fp).env).map (·.2) := by intros; rfl) : RGws X TZ scope own (e :: es) (tsCons g r) := by
  obtain ⟨t1, g1, k1⟩ := h1
  obtain ⟨t2, g2, k2⟩ := h2
  refine ⟨_, fun s H C cl fp => pgs_cons (g1 s H C cl fp) (g2 s H C cl fp) (hs s H C cl fp), fun θ st s' ρ ρ' σ H ds vs Q hR hE rp e q => ?_⟩
  unfold tsCons at e
  split at e
  · rename_i d es2
    split at e
    · rename_i ρ1 s1 e1
      unfold RepVs at rp
      obtain ⟨v, w, rfl, r1, r2⟩ := rp
      refine ⟨v, w, rfl, k1 θ st s1 ρ ρ1 σ H d v _ hR hE r1 e1 fun θ1 σ1 H1 p1 kp1 R1 E1 w1 => ?_⟩
      exact k2 θ1 s1 s' ρ1 ρ' σ1 H1 es2 w Q R1 E1 (r2.step p1 kp1) e fun θ2 σ2 H2 p2 kp2 R2 E2 w2 => q θ2 σ2 H2 (p1.trans p2) (kp1.trans kp2) R2 E2 (w2.trans w1)
    · cases e
  · cases e
theorem rgw_tup {es : List Expr} {k : Nat} {r : List D → En → Sto → Option (En × Sto)} {n : Nat} {pos : Pos} (hc : X.calm = true) (h : RGws X TZ scope own es r) (hn : ∀ s H C cl fp, (assignEach es (BlkX X scope s H C cl fp).env).length = n := by intros; rfl) (hst : ∀ s H C cl fp, (assignEach es (BlkX X scope s H C cl fp).env).findIdx? (·.1) = none := by intros; rfl) : RGw X TZ scope own (.Tuple es k pos) (tT n r) := by
  obtain ⟨t, g, kk⟩ := h
  refine ⟨gTup X.K n t, fun s H C cl fp => pg_tup (X := BlkX X scope s H C cl fp) hc (g s H C cl fp) (hn s H C cl fp) (hst s H C cl fp), fun θ st s' ρ ρ' σ H d v Q hR hE rp e q => ?_⟩
  unfold tT at e
  split at e
  · rename_i ds
    split at e
    · rename_i hl
      obtain ⟨a, vs, rfl, s1, r1⟩ := rep_tupE rp
      exact ⟨a, vs, rfl, s1, by rw [← r1.length]; exact hl, kk θ st s' ρ ρ' σ H ds vs Q hR hE r1 e q⟩
    · cases e
  · rename_i ds
    split at e
    · rename_i hl
      obtain ⟨a, vs, rfl, s1, r1⟩ := rep_wt.mp rp
      exact ⟨a, vs, rfl, SqT.of s1, by rw [← r1.length]; exact hl, kk θ st s' ρ ρ' σ H ds vs Q hR hE r1 e q⟩
    · cases e
  · cases e
/-- the tests of a comprehension -/
def RTs (X : Cx) (TZ : Tabz) (scope : Scope) (ifs : List Expr) (m : B) : Prop := ∀ s H C cl fp, PTs (BlkX X scope s H C cl fp) ifs (tM (gx X TZ) (Fe X) We rB m)
theorem rts_nil : RTs X TZ scope [] bYes := fun s H C cl fp => ⟨fun pins s σ H Q I ⟨θ, st, ρ, hR, hE, q⟩ => pts_nil.run pins s σ H Q I (q.now hR rfl)⟩
theorem rts_one {c : Expr} {m : B} (h : ∀ s H C cl fp, RT (BlkX X scope s H C cl fp) TZ (Fe X) We c m) : RTs X TZ scope [c] m := fun s H C cl fp => pts_one (h s H C cl fp)
theorem lc_core2 {mi : MI} {tgt : T} {mt : B} {me : C} {wi : TI} {t : TG} {σ : L2.St} {H : Hp} {Q : VK} {θ : List Addr} {st : Sto} {ρ : En}
    (kwi : ∀ (σ : L2.St) (H : Hp) (θ : List Addr) (st : Sto) (ρ : En) (R : It → Hp → Prop), Rel (gx X TZ) θ st H → EnvR (gx X TZ) F θ H ρ σ → Res (gx X TZ) (fun θ' H' wk J => ItOk (gx X TZ) θ' H' wk J) W σ θ H (mi ρ st) R → wi σ H R)
    (kg : ∀ (θ : List Addr) (st s' : Sto) (ρ ρ' : En) (σ : L2.St) (H : Hp) (d : D) (v : V) (Q : L2.St → Hp → Prop), Rel (gx X TZ) θ st H → EnvR (gx X TZ) (Fe X) θ H ρ σ → RepV X.K θ H d v → tgt d ρ st = some (ρ', s') →
      (∀ (θ' : List Addr) (σ' : L2.St) (H' : Hp), θ <+: θ' → Keep H H' → Rel (gx X TZ) θ' s' H' → EnvR (gx X TZ) (Fe X) θ' H' ρ' σ' → L2.wipe σ' own = L2.wipe σ own → Q σ' H') → t v σ H Q)
    (hR : Rel (gx X TZ) θ st H) (hE : EnvR (gx X TZ) F θ H ρ σ) (q : Res (gx X TZ) (rV (gx X TZ)) W σ θ H (cLc mi own tgt mt me ρ st) Q) :
    tLc wi t (tM (gx X TZ) (Fe X) We rB mt) (tM (gx X TZ) (Fe X) We (rV (gx X TZ)) me) own σ H Q := by
  refine kwi σ H θ st ρ _ hR hE (q.seq fun θ1 wk s1 J H1 p1 k1 R1 r1 h1 => fun Dn hD => ?_)
  cases el : loopC (okW wk.lk) s1.length tgt mt me (wipeM ρ own) wk.items [] (s1 ++ [.lst []]) with
  | none => rw [el] at h1; exact h1.elim
  | some sF =>
    rw [el] at h1
    have h1 : ∀ (θ' : List Addr) (b : V) (H' : Hp), θ1 <+: θ' → Keep H1 H' → Rel (gx X TZ) θ' sF H' → RepV X.K θ' H' (.ref s1.length) b → Q b H' := h1
    have kD := Keep.same (same_new (o := .lst []) hD)
    have RD : Rel (gx X TZ) (θ1 ++ [Dn]) (s1 ++ [.lst []]) (upd H1 Dn (.lst [])) := R1.push hD .nil_iff
    have pD : θ1 <+: θ1 ++ [Dn] := List.prefix_append _ _
    have eD : (θ1 ++ [Dn])[s1.length]? = some Dn := by rw [← R1.len]; simp
    refine ⟨fun i m H' => m = wk.items.length - i ∧ i ≤ wk.items.length ∧ ∃ (θ' : List Addr) (st' : Sto) (acc : List D), θ1 ++ [Dn] <+: θ' ∧ Keep (upd H1 Dn (.lst [])) H' ∧ Rel (gx X TZ) θ' st' H' ∧ EnvR (gx X TZ) (Fe X) θ' H' (wipeM ρ own) (L2.wipe σ own) ∧ loopC (okW wk.lk) s1.length tgt mt me (wipeM ρ own) (wk.items.drop i) acc st' = some sF,
      ⟨_, rfl, Nat.zero_le _, θ1 ++ [Dn], _, [], List.prefix_refl _, Keep.refl _, RD, ((hE.step p1 k1).step pD kD).wipe rfl rfl own, el⟩, ?_⟩
    rintro i m H2 ⟨rfl, hi, θ2, st2, acc, p2, k2, R2, E2, q2⟩
    have k12 : Keep H1 H2 := kD.trans k2
    by_cases hlt : i < wk.items.length
    · rw [List.drop_eq_getElem_cons hlt] at q2
      unfold loopC at q2
      split at q2
      · rename_i hok
        have it := (r1 θ2 st2 H2 (pD.trans p2) k12 R2 hok).2 i _ (List.getElem?_eq_getElem hlt)
        refine .inr ⟨it.1, fun H' => ∃ (θ' : List Addr) (st' : Sto) (acc : List D), θ1 ++ [Dn] <+: θ' ∧ Keep (upd H1 Dn (.lst [])) H' ∧ Rel (gx X TZ) θ' st' H' ∧ EnvR (gx X TZ) (Fe X) θ' H' (wipeM ρ own) (L2.wipe σ own) ∧ loopC (okW wk.lk) s1.length tgt mt me (wipeM ρ own) (wk.items.drop (i + 1)) acc st' = some sF,
          fun H' z => ⟨_, by omega, rfl, hlt, z⟩, fun x H3 y => ?_⟩
        obtain ⟨k3, R3, r3⟩ := it.2 x H3 y
        split at q2
        · cases q2
        · rename_i ρ3 s3 e3
          refine kg θ2 st2 s3 (wipeM ρ own) ρ3 (L2.wipe σ own) H3 _ x _ R3 (E2.step (List.prefix_refl _) k3) r3 e3 fun θ4 σ4 H4 p4 k4 R4 E4 w4 => ⟨by rw [w4, wipe_wipe], ?_⟩
          split at q2
          · rename_i b s4 e4
            refine ⟨θ4, s3, ρ3, R4, E4, res_ok e4 fun θ5 b' H5 p5 k5 R5 r5 => ?_⟩
            cases r5
            have k35 := (k3.trans k4).trans k5
            have E5 := E2.step (p4.trans p5) k35
            cases b with
            | false =>
              rw [if_neg (by simp)] at q2 ⊢
              exact ⟨θ5, s4, acc, p2.trans (p4.trans p5), k2.trans k35, R5, E5, q2⟩
            | true =>
              rw [if_pos rfl] at q2 ⊢
              split at q2
              · rename_i y6 s6 e6
                refine ⟨θ5, s4, ρ3, R5, E4.step p5 k5, res_ok e6 fun θ6 v6 H6 p6 k6 R6 r6 => ?_⟩
                split at q2
                · rename_i hacc
                  obtain ⟨hacc, hsz⟩ := hacc
                  have p26 := p2.trans (p4.trans (p5.trans p6))
                  obtain ⟨vs, e7, r7⟩ := R6.lst_at hacc (pre_get p26 eD)
                  refine ⟨vs, e7, by rw [← r7.length]; exact hsz, ?_⟩
                  have kk := Keep.list (o := .lst (vs ++ [v6])) e7
                  exact ⟨θ6, _, _, p26, k2.trans ((k35.trans k6).trans kk), R6.set hacc (pre_get p26 eD) e7 (r7.append (.cons r6 .nil_iff)), (E5.step p6 k6).step (List.prefix_refl _) kk, q2⟩
                · cases q2
              · cases q2
          · cases q2
      · cases q2
    · have he : i = wk.items.length := by omega
      rw [List.drop_eq_nil_of_le (by omega)] at q2
      unfold loopC at q2
      split at q2
      · rename_i hok
        cases q2
        refine .inl ⟨(r1 θ2 _ H2 (pD.trans p2) k12 R2 hok.1).1 i he, ?_⟩
        exact h1 θ2 (.ref Dn) H2 (pD.trans p2) k12 R2 (rep_ref.mpr ⟨Dn, rfl, pre_get p2 eD⟩)
      · cases q2
theorem re_lc {elt tg iter : Expr} {ifs : List Expr} {ownS : List (Str × Nat)} {pos : Pos} {mi : MI} {tgt : T} {mt : B} {me : C} (hc : X.calm = true) (hN : X.N.Nodup) (hi : RI X TZ F W tg iter mi) (ok : BlkOk X.N X.env.scope scope ownS)
    (hg : RGw X TZ scope (ownS.map (·.2)) tg tgt) (ht : RTs X TZ scope ifs mt) (he : ∀ s H C cl fp, RE (BlkX X scope s H C cl fp) TZ (Fe X) We elt me) (hs : ∀ x, foldedSetIterable iter X.env x = pure x := by intro _; rfl) :
    RE X TZ F W (.ListComp elt [⟨tg, iter, ifs, 0⟩] scope pos) (cLc mi (ownS.map (·.2)) tgt mt me) := by
  obtain ⟨wi, hwi, kwi⟩ := hi.ex
  obtain ⟨t, hgt, kg⟩ := hg
  refine PE.imp (pe_lc (te := tM (gx X TZ) (Fe X) We (rV (gx X TZ)) me) hc hN hwi ok hgt ht he hs) fun σ H Q ⟨θ, st, ρ, hR, hE, q⟩ => lc_core2 kwi kg hR hE q
/-- y = [..] -/
theorem rs_setLc {i : Nat} {y : Str} {py : Pos} {elt tg iter : Expr} {ifs : List Expr} {ownS : List (Str × Nat)} {pos spos : Pos} {mi : MI} {tgt : T} {mt : B} {me : C} (hc : X.calm = true) (hN : X.N.Nodup) (hy : X.N[i]? = some y) (hyl : X.env.scope.names.lookup y = some .local)
    (hsw : swapsWith (.ListComp elt [⟨tg, iter, ifs, 0⟩] scope pos) (some (.Name y py)) spos.line X.env = pure true) (hi : RI X TZ F W tg iter mi) (ok : BlkOk X.N X.env.scope scope ownS)
    (hg : RGw X TZ scope (ownS.map (·.2)) tg tgt) (ht : RTs X TZ scope ifs mt) (he : ∀ s H C cl fp, RE (BlkX X scope s H C cl fp) TZ (Fe X) We elt me) (hs : ∀ x, foldedSetIterable iter X.env x = pure x := by intro _; rfl) (hcl : F.free i = true := by rfl) :
    RS X TZ F W (.Assign [.Name y py] (.ListComp elt [⟨tg, iter, ifs, 0⟩] scope pos) spos) (sAsg (cLc mi (ownS.map (·.2)) tgt mt me) (tN i)) := by
  obtain ⟨wi, hwi, kwi⟩ := hi.ex
  obtain ⟨t, hgt, kg⟩ := hg
  refine PS.imp (ps_setLc (te := tM (gx X TZ) (Fe X) We (rV (gx X TZ)) me) hc hN hy hyl hsw hwi ok hgt ht he hs) fun E σ H ⟨θ, st, ρ, hR, hE, q⟩ => ?_
  refine lc_core2 kwi kg hR hE (Res.thenS hE q fun θ1 d s1 v H1 p1 k1 R1 r1 h1 => ?_)
  exact h1 θ1 _ H1 (List.prefix_refl _) (Keep.refl _) R1 ((hE.step p1 k1).set i hcl r1)
end
end Rg

/-! defs, errors, lambdas -/
namespace Rg
open PySem PySem.Spec PyProof.Rows L2 Fs
def clos : List Bool → List Clo → Nat → List (Nat × Clo)
  | [], _, _ => []
  | false :: m, fs, i => clos m fs (i + 1)
  | true :: m, φ :: fs, i => (i, φ) :: clos m fs (i + 1)
  | true :: _, [], _ => []
def startM : List Bool → List D → Nat → En
  | [], _, n => List.replicate n none
  | false :: m, d :: ds, n => some d :: startM m ds n
  | false :: m, [], n => none :: startM m [] n
  | true :: m, ds, n => none :: startM m ds n
def outR : RO → R D
  | .nx _ s => .ok .non s
  | .rt d s => .ok d s
  | .ex c d _ s => .ex c d s
  | _ => .no
def plains : List Bool → Nat
  | [] => 0
  | false :: m => plains m + 1
  | true :: m => plains m
noncomputable def runDef (mask : List Bool) (n : Nat) (m : List Clo → S) : List Clo → Clo := fun fs ds st => if ds.length = plains mask then gcR st (outR (m fs (startM mask ds n) st)) else .no
theorem clos_ge : ∀ {m : List Bool} {fs : List Clo} {i j : Nat} {φ : Clo}, (clos m fs i).lookup j = some φ → i ≤ j
  | [], _, _, _, _, h => by unfold clos at h; cases h
  | false :: m, fs, i, j, φ, h => by
    unfold clos at h
    have := clos_ge h
    omega
  | true :: m, [], i, j, φ, h => by unfold clos at h; cases h
  | true :: m, ψ :: fs, i, j, φ, h => by
    unfold clos at h
    rw [List.lookup_cons] at h
    split at h
    · rename_i e
      have := beq_iff_eq.mp e
      omega
    · have := clos_ge h
      omega
theorem args_len {G : Gx} {k : Nat} {s : Shared} {H : Hp} {θ : List Addr} : ∀ {mask : List Bool} {fs : List Clo} {ds : List D} {vs : List V}, ArgsR G k s H θ mask fs ds vs → vs.length = mask.length
  | [], _, _, _, h => by obtain ⟨_, _, e⟩ := h; subst e; rfl
  | false :: m, _, _, _, h => by
    obtain ⟨d, ds', v, vs', _, e, _, h2⟩ := h
    rw [e, List.length_cons, List.length_cons, args_len h2]
  | true :: m, _, _, _, h => by
    obtain ⟨φ, fs', a, vs', _, e, _, h2⟩ := h
    rw [e, List.length_cons, List.length_cons, args_len h2]
theorem args_start {G : Gx} {k : Nat} {s : Shared} {H : Hp} {θ : List Addr} {n : Nat} : ∀ {mask : List Bool} {fs : List Clo} {ds : List D} {vs : List V} (i : Nat), ArgsR G k s H θ mask fs ds vs →
    (startM mask ds n).length = (vs.map some ++ List.replicate n none : L2.St).length ∧ (∀ (j : Nat) (d : D), (startM mask ds n)[j]? = some (some d) → ∃ v, (vs.map some ++ List.replicate n none : L2.St)[j]? = some (some v) ∧ RepV G.K θ H d v) ∧
    ∀ (j : Nat) (φ : Clo), (clos mask fs i).lookup j = some φ → ∃ a : Addr, (vs.map some ++ List.replicate n none : L2.St)[j - i]? = some (some (.ref a)) ∧ CallsM G k s H θ a φ
  | [], _, _, _, i, h => by
    obtain ⟨rfl, rfl, rfl⟩ := h
    unfold startM clos
    refine ⟨by simp, fun j d e => ?_, fun j φ e => by cases e⟩
    rw [List.getElem?_replicate] at e
    split at e <;> cases e
  | false :: m, _, _, _, i, h => by
    obtain ⟨d, ds', v, vs', rfl, rfl, r, h2⟩ := h
    obtain ⟨h3, h4, h5⟩ := args_start (n := n) (i + 1) h2
    unfold startM clos
    refine ⟨by simpa using h3, fun j e he => ?_, fun j φ he => ?_⟩
    · cases j with
      | zero => simp at he; subst he; exact ⟨v, by simp, r⟩
      | succ j => simpa using h4 j e (by simpa using he)
    · obtain ⟨a, e1, c⟩ := h5 j φ he
      have := clos_ge he
      refine ⟨a, ?_, c⟩
      rw [show j - i = (j - (i + 1)) + 1 by omega]
      simpa using e1
  | true :: m, _, _, _, i, h => by
    obtain ⟨ψ, fs', b, vs', rfl, rfl, r, h2⟩ := h
    obtain ⟨h3, h4, h5⟩ := args_start (n := n) (i + 1) h2
    unfold startM clos
    refine ⟨by simpa using h3, fun j e he => ?_, fun j φ he => ?_⟩
    · cases j with
      | zero => simp at he
      | succ j => simpa using h4 j e (by simpa using he)
    · rw [List.lookup_cons] at he
      split at he
      · rename_i e
        have e := beq_iff_eq.mp e
        subst e
        cases he
        exact ⟨b, by simp, r⟩
      · obtain ⟨a, e1, c⟩ := h5 j φ he
        have := clos_ge he
        refine ⟨a, ?_, c⟩
        rw [show j - i = (j - (i + 1)) + 1 by omega]
        simpa using e1
section
variable {P : Program} {w : World} {K : PySem.W.Frag} {mg : Str → Option Value} {base : Heap} {TZ : Tabz}
/-- how the def's code object is told -/
def CodeV (K : PySem.W.Frag) (x : Str) (st : Stmt) (f : Addr) (fd : FuncData) (cdv : Value) : Prop :=
  ∃ (oc : Value) (od : Option Addr) (kV doc pm : Value) (an : Option Addr) (ct : Value) (osl : Array (Option Value)), fd = PySem.W.fnOf x x (defArgs st) (defBody st) (defScope st) .none kV doc pm an cdv ct ∧ K.lookup f = some ⟨oc, od, .func fd, osl⟩ ∧ PySem.W.codeIn K cdv x = true
theorem CodeV.of {x : Str} {st : Stmt} {ps : List Str} {f : Addr} {fd : FuncData} (Dd : DefAt K mg x st ps f fd) : ∃ cdv, CodeV K x st f fd cdv := by
  obtain ⟨oc, od, kV, doc, pm, an, cdv, ct, osl, e, lk, hcd⟩ := Dd.F.ex
  subst e
  exact ⟨cdv, oc, od, kV, doc, pm, an, ct, osl, rfl, lk, hcd⟩
theorem CodeV.at {x : Str} {st : Stmt} {f c : Addr} {fd : FuncData} (C : CodeAt K x st f fd c) : CodeV K x st f fd (.ref c) := by
  obtain ⟨oc, od, kV, doc, pm, an, ct, osl, e, lk, hcd⟩ := C.ex
  exact ⟨oc, od, kV, doc, pm, an, ct, osl, e, lk, hcd⟩
theorem okMc {x : Str} {st : Stmt} {f : Addr} {fd : FuncData} {N ps : List Str} {k kc n : Nat} {mask : List Bool} {m : List Clo → S} {cdv : Value} (Dd : DefAt K mg x st ps f fd) (C : CodeV K x st f fd cdv) (Sc : FnScope N ps (defScope st)) (hm : mask.length = ps.length) (hn : N.length - ps.length = n)
    (hbody : ∀ (A : Around) (outer : List Env) (s : Shared) (H : Hp) (E : XK) (fs : List Clo), Room k (A.deeper (envOfC x (defScope st) s.heap.objs.size f cdv)) → RSs (cxOf (L2.CX P w) P w K mg base N x (defScope st) f cdv A outer s H E) TZ ⟨s, H, kc, clos mask fs 0, none⟩ (fun cls d _ H => E cls d H) (defBody st) (m fs)) :
    FnM ⟨P, w, K, mg, base, TZ⟩ x (k + 1) kc mask (runDef mask n m) := by
  obtain ⟨oc, od, kV, doc, pm, an, ct, osl, e, lk, hcd⟩ := C
  subst e
  refine ⟨f, Dd.g, Dd.F.kp, fun h hin => ⟨oc, od, _, osl, hin _ _ lk⟩, fun A outer s H us vs Q E hr e0 r ⟨θ, s0, fs, ds, hR, ha, q⟩ => ?_⟩
  have hl : vs.length = ps.length := (args_len ha).trans hm
  have KX : K.In s.heap := e0.mod.kin.keeps fun b o e => (e0.bs b o e).1
  have hb : BindsTo s (PySem.W.fnOf x x (defArgs st) (defBody st) (defScope st) .none kV doc pm an cdv ct) ⟨us, []⟩ (ps.zip us) := by
    have z := Dd.b s us KX (by rw [List.append_nil, ← r.length]; exact hl)
    rw [List.append_nil] at z
    exact z
  refine LamX.run_ofS lk hcd Sc hr e0 hb r hl fun hr2 => ?_
  have hs := args_start (n := N.length - vs.length) 0 ha
  rw [hl, hn] at hs
  refine ⟨_, hbody A outer s H E fs hr2, θ, s0, startM mask ds n, hR, ⟨?_, ?_, fun j φ h => ?_, fun _ _ _ _ e => by cases e⟩, ?_⟩
  · show _ = (L2.start N vs).length
    unfold L2.start
    rw [hl, hn]
    exact hs.1
  · intro j d h
    obtain ⟨v, e1, r1⟩ := hs.2.1 j d h
    refine ⟨v, ?_, r1⟩
    unfold L2.start
    rw [hl, hn]
    exact e1
  · obtain ⟨a, e1, c⟩ := hs.2.2 j φ h
    refine ⟨Keep.refl _, a, ?_, c⟩
    unfold L2.start
    rw [hl, hn]
    simpa using e1
  · have q : Res ⟨P, w, K, mg, base, TZ⟩ (rV ⟨P, w, K, mg, base, TZ⟩) (fun c d _ H => E c d H) [] θ H (gcR s0 (outR (m fs (startM mask ds n) s0))) Q := by
      unfold runDef at q
      split at q
      · exact q
      · exact q.elim
    have q2 := gcR_sound hR q
    cases e : m fs (startM mask ds n) s0 with
    | no => rw [e] at q2; exact q2
    | nx ρ s => rw [e] at q2; exact fun θ1 σ1 H1 p1 k1 R1 E1 => q2 θ1 .non H1 p1 k1 R1 (rep_non.mpr rfl)
    | rt d s => rw [e] at q2; exact q2
    | bk ρ s => rw [e] at q2; exact q2.elim
    | ct ρ s => rw [e] at q2; exact q2.elim
    | ex c d ρ s => rw [e] at q2; exact fun θ1 σ1 v H1 Ca dx p1 k1 R1 E1 => q2 θ1 v H1 Ca dx p1 k1 R1
theorem okM {x : Str} {st : Stmt} {f : Addr} {fd : FuncData} {N ps : List Str} {k kc n : Nat} {mask : List Bool} {m : List Clo → S} (Dd : DefAt K mg x st ps f fd) (Sc : FnScope N ps (defScope st)) (hm : mask.length = ps.length) (hn : N.length - ps.length = n)
    (hbody : ∀ (cdv : Value) (A : Around) (outer : List Env) (s : Shared) (H : Hp) (E : XK) (fs : List Clo), Room k (A.deeper (envOfC x (defScope st) s.heap.objs.size f cdv)) → RSs (cxOf (L2.CX P w) P w K mg base N x (defScope st) f cdv A outer s H E) TZ ⟨s, H, kc, clos mask fs 0, none⟩ (fun cls d _ H => E cls d H) (defBody st) (m fs)) :
    FnM ⟨P, w, K, mg, base, TZ⟩ x (k + 1) kc mask (runDef mask n m) := by
  obtain ⟨cdv, C⟩ := CodeV.of Dd
  exact okMc Dd C Sc hm hn (hbody cdv)
end
section
variable {X : Cx} {TZ : Tabz} {F : Fx} {W : WX}
/-- raise X(e), X an error of the text -/
theorem rs_raise {x : Str} {C fI CR : Addr} {k : Nat} {fd : FuncData} {e : Expr} {r : AL} {p p2 pos : Pos} (Er : ErrC X.K X.mg x C fI CR) (Gi : FnOk X.prog X.w X.K X.mg X.base CX0 k fI fd ["self", "what"] (spErrInit X.K)) (hb : Binds X.K fd ["self", "what"] []) (hr : Room (k + 1) X.A) (hc : X.calm = true) (tk : Takes X W) (hg : Gl X x) (ha : RA X TZ F W [e] r)
    (hdb : (x == ("__debug__" : Str)) = false := by decide) (he : starEach [e] X.env = (false, eval e X.env) :: starEach [] X.env := by rfl) : RS X TZ F W (.Raise (some (.Call (.Name x p) [e] [] p2)) none pos) (sRaise x r) := by
  refine PS.imp (ps_raise hc tk (pmk_oex (CX := CX0) Er.T Er.iC Er.tI Gi hr hb .nil pass0 hg Er.g ha hdb he rfl)) fun D σ H ⟨θ, st, ρ, hR, hE, q⟩ => ?_
  refine ⟨θ, st, ρ, hR, hE, Res.thenS hE q fun θ1 ds s1 vs H1 p1 k1 R1 r1 h1 => ?_⟩
  match ds, r1, h1 with
  | [d], r1, h1 =>
    obtain ⟨v, rfl, rv⟩ := rep_list1 r1
    refine made_err (y := v) (Q := fun cls d H' => W cls d σ H') Er fun dd hdd => ?_
    have kk := Keep.same (same_new (o := .xd [("what", v)]) hdd)
    exact h1 θ1 σ v _ C dd (List.prefix_refl _) kk (R1.new hdd) ((hE.step p1 k1).step (List.prefix_refl _) kk) (rv.step (List.prefix_refl _) kk) Er.g upd_same
  | [], r1, h1 => exact h1.elim
  | _ :: _ :: _, r1, h1 => exact h1.elim
end
/-! ### lambdas -/
/-- the slots of a lambda: its parameters, then what it captures -/
def lamEn (ds : List D) (ws : List (Option D)) (n : Nat) : En := ds.map some ++ (ws ++ List.replicate n none)
noncomputable def lamM (k n : Nat) (ws : List (Option D)) (mb : C) : Clo := fun ds st => if ds.length = k then gcR st (mb (lamEn ds ws n) st) else .no
def slotM (ρ : En) (j : Nat) : Option D := match ρ[j]? with
  | some o => o
  | none => none
section
variable {X : Cx} {TZ : Tabz} {F : Fx} {W : WX} {pins : List (Addr × Obj)} {σ : L2.St} {H : Hp} {s : Shared}
theorem lam_runM {P : Program} {w : World} {K : PySem.W.Frag} {mg : Str → Option Value} {base : Heap} {CX : CXT} {N ps fr : List Str} {q : Str} {params : Arguments} {body : Expr} {scope : Scope} {cl : List (Str × Addr)} {pm ctv : Value} {f c' : Addr} {k : Nat} {A : Around} {outer : List Env} {s : Shared} {H : Hp} {us : List Value} {vs : List V} {ws : List (Option V)} {Q : VK} {E : XK} {o : Obj}
    (Sc : NdefX.NScope N ps fr scope) (hb : bindArgs (PySem.W.kla_fn "<lambda>" q params body scope cl pm (.ref c') ctv) ⟨us, []⟩ = pure (ps.zip us)) (hr : Room (k + 1) A) (e0 : Env0 P w K mg base A outer s H)
    (hf : s.heap.get? f = some o) (ho : o.data = .func (PySem.W.kla_fn "<lambda>" q params body scope cl pm (.ref c') ctv)) (hc : H c' = some (LamX.CodeO c' q)) (Ce : NdefX.CellsAt cl fr ws s.heap H) (r : Vals vs us) (hl : vs.length = ps.length)
    (hbody : Room k (A.deeper (NdefX.envF (lamF q params scope cl c') f s.heap.objs.size)) → ∃ t, PE (NdefX.ncx CX P w K mg base N (lamF q params scope cl c') f A outer s H E) body t ∧ t (NdefX.startF N vs ws) H Q) :
    codeAny (model P w) A (.call (.ref f) ⟨us, []⟩) (CR CX outer P w H s Q E) s := by
  obtain ⟨⟨oc, vc, tc, hoc, hdc, hvc⟩, _, _⟩ := e0.hok c' _ hc
  have lim : s.heap.NoLimit := e0.mod.nolimit.keeps fun b ob z => (e0.bs b ob z).1
  refine PySem.W.kla_callFunE hr.depth hf ho Sc.co Sc.gen rfl ⟨c', oc, vc, tc, rfl, hoc, hdc, hvc⟩ ?_
  rw [hb]
  refine wpAny_pure (wpAny_newFunctionEnv Sc.nocell (fun ⟨n, _⟩ hy => Sc.par n (List.of_mem_zip hy).1) (fun h1 hns hsb => ⟨lim.fresh _ hsb, ?_⟩) Sc.kind)
  show codeAny _ _ (.expr body (NdefX.envF (lamF q params scope cl c') f s.heap.objs.size)) _ _
  have kp : ∀ b ob, s.heap.get? b = some ob → h1.get? b = some ob := fun b ob z => hsb.extBut b ob (Nat.ne_of_lt (Heap.lt_size z)) (Heap.get?_push_of_some _ z)
  obtain ⟨t, ht, hq⟩ := hbody (hr.deeper _)
  have I := NdefX.inv_startN (CX := CX) (E := E) (F := lamF q params scope cl c') (f := f) (tk := s.toks + (ps.zip us).length) Sc hr.hd e0 hl r Ce hns kp
  refine PySem.W.kla_codeExpr (wpAny_mono (ht.run [] _ _ H Q I hq) (fun v s' got => ?_) (fun e s' z => z))
  obtain ⟨v', H', J, rv, qq⟩ := got
  exact ⟨v', H', J.os, J.bare, J.base, J.hok, rv, qq⟩
/-- a lambda just made does what its body says -/
theorem lam_callsM {N fr ps : List Str} {q : Str} {params : Arguments} {body : Expr} {scope : Scope} {cl : List (Str × Addr)} {pm ctv : Value} {f c' : Addr} {k n : Nat} {js : List Nat} {mb : C} {θ : List Addr} {ρ : En} (I : Inv X pins σ H s) (cp : NdefX.Caps X cl fr js)
    (hE : EnvR (gx X TZ) F θ H ρ σ)
    (hf : s.heap.get? f = some (PySem.W.kla_obj "<lambda>" q params body scope cl pm c' ctv)) (hfn : H f = none) (hc : H c' = some (LamX.CodeO c' q)) (Sc : NdefX.NScope N ps fr scope) (hn : N.length - ps.length - fr.length = n)
    (hb : ∀ (us : List Value) (pm cv ctv : Value), us.length = ps.length → bindArgs (PySem.W.kla_fn "<lambda>" q params body scope cl pm cv ctv) ⟨us, []⟩ = pure (ps.zip us))
    (hbody : ∀ (A : Around) (outer : List Env) (s : Shared) (H : Hp) (E : XK), Room k (A.deeper (NdefX.envF (lamF q params scope cl c') f s.heap.objs.size)) →
      RE (NdefX.ncx (L2.CX X.prog X.w) X.prog X.w X.K X.mg X.base N (lamF q params scope cl c') f A outer s H E) TZ ⟨s, H, 0, [], none⟩ (fun cls d _ H => E cls d H) body mb) :
    CallsM (gx X TZ) (k + 1) s H θ f (lamM ps.length n (js.map (slotM ρ)) mb) := by
  have C0 := NdefX.cells_of I cp
  have isF : ∀ s1 H1, Later s H s1 H1 → ∃ o : Obj, s1.heap.get? f = some o ∧ o.data = .func (PySem.W.kla_fn "<lambda>" q params body scope cl pm (.ref c') ctv) := fun s1 H1 l => by
    obtain ⟨fs, u⟩ := l.un
    obtain ⟨sl, z⟩ := u.any hf hfn (by simp)
    exact ⟨_, z, rfl⟩
  refine ⟨fun s1 H1 l => ?_, fun A outer s1 H1 us vs ds θ1 st Q E hr e0 l p1 R1 r1 ru qq => ?_⟩
  · obtain ⟨⟨oc, od, dt, sl⟩, z, hd⟩ := isF s1 H1 l
    have hd2 : dt = .func (PySem.W.kla_fn "<lambda>" q params body scope cl pm (.ref c') ctv) := hd
    subst hd2
    exact ⟨oc, od, _, sl, z⟩
  · obtain ⟨o, z, hd⟩ := isF s1 H1 l
    obtain ⟨fs, un⟩ := l.un
    have cellK : ∀ {y : Str} {c : Addr} {x : Option Value}, cl.lookup y = some c → s.heap.IsCell c x → s1.heap.IsCell c x := fun {y c x} e ⟨ob, h1, h2⟩ => by
      obtain ⟨sl, zz⟩ := un.any h1 (C0.all y c e).1 (by simp)
      exact ⟨_, zz, h2⟩
    have C1 : NdefX.CellsAt cl fr (js.map (NdefX.slotAt σ)) s1.heap H1 := by
      refine ⟨C0.len, fun y c e => ?_, C0.inj, fun i y e => ?_⟩
      · obtain ⟨n, x, hx⟩ := C0.all y c e
        refine ⟨?_, x, cellK e hx⟩
        obtain ⟨ob, h1, _⟩ := hx
        exact un.free c ob h1 n (by simp)
      · obtain ⟨c, e2, hv⟩ := C0.has i y e
        refine ⟨c, e2, fun x ex => ?_⟩
        obtain ⟨u2, r2, z2⟩ := hv x ex
        exact ⟨u2, r2, cellK e2 z2⟩
    have hc1 : H1 c' = some (LamX.CodeO c' q) := l.kp.code _ _ hc
    unfold lamM at qq
    split at qq
    · rename_i hds
      have hvl : vs.length = ps.length := by rw [← r1.length]; exact hds
      have hul : us.length = ps.length := by rw [← ru.length]; exact hvl
      have hEl := hE.step (H' := H1) p1 l.kp
      refine lam_runM (N := N) (ps := ps) (fr := fr) Sc (hb us pm (.ref c') ctv hul) hr e0 z hd hc1 C1 ru hvl fun hr2 => ⟨_, hbody A outer s1 H1 E hr2, θ1, st, lamEn ds (js.map (slotM ρ)) n, R1, ⟨?_, fun i d e => ?_, fun i φ e => (by cases e), fun _ _ _ _ e => (by cases e)⟩, ?_⟩
      · unfold lamEn NdefX.startF
        simp only [List.length_append, List.length_map, List.length_replicate]
        have := C0.len
        rw [List.length_map] at this
        rw [hds, hvl, this, hn]
      · unfold lamEn at e
        unfold NdefX.startF
        by_cases hi : i < ds.length
        · rw [List.getElem?_append_left (by simpa using hi), List.getElem?_map] at e
          cases e1 : ds[i]? with
          | none => rw [e1] at e; cases e
          | some d' =>
            rw [e1] at e
            cases e
            obtain ⟨v, ev, rv⟩ := r1.get e1
            exact ⟨v, by rw [List.getElem?_append_left (by rw [List.length_map, ← r1.length]; exact hi), List.getElem?_map, ev]; rfl, rv⟩
        · rw [List.getElem?_append_right (by simpa using hi), List.length_map] at e
          have e0 : (vs.map some).length = ds.length := by rw [List.length_map, r1.length]
          rw [List.getElem?_append_right (by rw [e0]; omega), e0]
          by_cases hj : i - ds.length < js.length
          · rw [List.getElem?_append_left (by simpa using hj), List.getElem?_map] at e
            rw [List.getElem?_append_left (by simpa using hj), List.getElem?_map]
            cases e1 : js[i - ds.length]? with
            | none => rw [e1] at e; cases e
            | some j =>
              rw [e1] at e
              have e : slotM ρ j = some d := Option.some.inj e
              unfold slotM at e
              cases e2 : ρ[j]? with
              | none => rw [e2] at e; cases e
              | some o =>
                rw [e2] at e
                have e : o = some d := e
                subst e
                obtain ⟨v, ev, rv⟩ := hEl.has j d e2
                refine ⟨v, ?_, rv⟩
                show some (NdefX.slotAt σ j) = _
                unfold NdefX.slotAt
                rw [ev]
          · rw [List.getElem?_append_right (by simpa using hj), List.getElem?_replicate] at e
            split at e <;> cases e
      · have q2 := gcR_sound R1 qq
        cases e : mb (lamEn ds (js.map (slotM ρ)) n) st with
        | ok a s => rw [e] at q2; exact q2
        | ex c d s => rw [e] at q2; exact q2
        | no => rw [e] at q2; exact q2
    · exact qq.elim
/-- a lambda, the last argument of a call -/
noncomputable def afLam (k n : Nat) (js : List Nat) (mb : C) : AF := fun ρ st => .ok ([lamM k n (js.map (slotM ρ)) mb], []) st
theorem rf_lam {x : Str} (N fr ps : List Str) (js : List Nat) (k n : Nat) (sc : Scope) {c Pt : Addr} {params : Arguments} {body : Expr} {scope : Scope} {lpos : Pos} {mb : C} (L : LamAt TZ X.base X.mg x c Pt)
    (hbody : ∀ (q : Str) (cl : List (Str × Addr)) (f c' : Addr) (A : Around) (outer : List Env) (s : Shared) (H : Hp) (E : XK), Room k (A.deeper (NdefX.envF (lamF q params scope cl c') f s.heap.objs.size)) →
      RE (NdefX.ncx (L2.CX X.prog X.w) X.prog X.w X.K X.mg X.base N (lamF q params scope cl c') f A outer s H E) TZ ⟨s, H, 0, [], none⟩ (fun cls d _ H => E cls d H) body mb)
    (hcode : X.env.code = .ref c := by rfl) (hq : X.env.qual = x ++ ".<locals>." := by rfl) (Sc : NdefX.nscB N ps fr scope = true := by decide +kernel) (hfree : NdefX.ndefB sc scope fr = true := by decide +kernel) (hsc : X.env.scope = sc := by rfl) (hjs : js.map (fun j => X.N[j]?) = fr.map some := by rfl)
    (hn : N.length - ps.length - fr.length = n := by rfl) (hdef : defaultsOf params X.env = ([], []) := by rfl)
    (hb : ∀ (q : Str) (cl : List (Str × Addr)) (us : List Value) (pm cv ctv : Value), us.length = ps.length → bindArgs (PySem.W.kla_fn "<lambda>" q params body scope cl pm cv ctv) ⟨us, []⟩ = pure (ps.zip us)) :
    RF X TZ F W (k + 1) [true] [.Lambda params body scope lpos] (afLam ps.length n js mb) := by
  refine ⟨fun pos pins s σ H Q θ st ρ I hR hE q => ?_⟩
  show wpAny _ _ (spliced ((false, eval (.Lambda params body scope lpos) X.env) :: [])) _ _ s
  have hfree := (show NdefX.ndefB X.env.scope scope fr = true by rw [hsc]; exact hfree)
  have h1 := NdefX.ndef_free hfree
  have hf2 : ∀ y ∈ scope.names, y.2 = .free → ∃ c, X.env.cells.lookup y.1 = some c := fun y hy e => (h1 y hy e).elim (fun z => I.ok.has _ (.inl z)) fun z => I.ok.has _ (.inr z)
  refine Calls.spliced_cons (LamX.lam_make2 I L.tb hcode (by rw [hq]; exact L.m) (by rw [hq]; exact L.u) hR.tabs hdef hf2 fun f c' pm ctv H1 s1 I1 eN T1 hfo hfn hfs hc => ?_)
  have keep : Keep H H1 := ⟨fun a xs e => eN _ _ e (fun _ z => by cases z), fun a o u e => eN _ _ e (fun _ z => by cases z), fun c q e => eN _ _ e LamX.codeO_ne, fun a fs e => eN _ _ e (fun _ z => by cases z)⟩
  have R1 : Rel (gx X TZ) θ st H1 := ⟨hR.len, hR.nd, fun n o a e1 e2 => by
    obtain ⟨vs, ho, h1, h2, h3⟩ := hR.obs n o a e1 e2
    exact ⟨vs, ho, eN _ _ h1 (fun ps z => by subst z; exact mut_tbl h2.mut), h2, h3.step (List.prefix_refl _) keep⟩, T1⟩
  have E1 := hE.step (List.prefix_refl θ) keep
  refine Calls.spliced_nil ⟨[.ref f], H1, I1, .cons rfl .nil, q θ s1 [.ref f] H1 (List.prefix_refl _) keep R1 ?_⟩
  exact ⟨_, [], f, [], rfl, rfl, lam_callsM I1 (NdefX.Caps.made I1.ok h1 (NdefX.ndef_fr hfree) hjs) E1 hfo hfn hc (NdefX.nscope_by Sc) hn (fun us pm cv ctv hl => hb _ _ us pm cv ctv hl) (fun A outer s H E hr => hbody _ _ f c' A outer s H E hr), rfl, rfl, rfl⟩
end
end Rg

/-! built-ins, methods, slices, in -/
namespace Rg
open PySem PySem.Spec PyProof.Rows L2 Fs
def intsOf : List D → Option (List Int)
  | [] => some []
  | .int i :: r => (intsOf r).map (i :: ·)
  | _ => none
def blsOf : List D → Option (List Bool)
  | [] => some []
  | .bl b :: r => (blsOf r).map (b :: ·)
  | _ => none
theorem intsOf_some : ∀ {ds : List D} {ns : List Int}, intsOf ds = some ns → ds = ns.map D.int
  | [], ns, h => by unfold intsOf at h; cases h; rfl
  | d :: r, ns, h => by
    unfold intsOf at h
    split at h
    · rename_i e; cases e
    · rename_i i r' e
      cases e
      obtain ⟨ms, h1, rfl⟩ := Option.map_eq_some_iff.mp h
      rw [intsOf_some h1]
      rfl
    · cases h
theorem blsOf_some : ∀ {ds : List D} {ns : List Bool}, blsOf ds = some ns → ds = ns.map D.bl
  | [], ns, h => by unfold blsOf at h; cases h; rfl
  | d :: r, ns, h => by
    unfold blsOf at h
    split at h
    · rename_i e; cases e
    · rename_i i r' e
      cases e
      obtain ⟨ms, h1, rfl⟩ := Option.map_eq_some_iff.mp h
      rw [blsOf_some h1]
      rfl
    · cases h
@[simp] theorem intsOf_map (ns : List Int) : intsOf (ns.map D.int) = some ns := by
  induction ns with
  | nil => rfl
  | cons n r ih => rw [List.map_cons, intsOf, ih]; rfl
@[simp] theorem blsOf_map (ns : List Bool) : blsOf (ns.map D.bl) = some ns := by
  induction ns with
  | nil => rfl
  | cons n r ih => rw [List.map_cons, blsOf, ih]; rfl
/-- the items of a list or a tuple -/
def itemsOf (d : D) (st : Sto) : Option (List D) := match d with
  | .tup xs => some xs
  | .fl xs => some xs
  | .ref n => match st[n]? with
    | some (.lst xs) => some xs
    | _ => none
  | _ => none
section
variable {X : Cx} {TZ : Tabz} {F : Fx} {W : WX} {θ : List Addr} {H : Hp} {st : Sto}
theorem items_rep {d : D} {v : V} {xs : List D} (hR : Rel (gx X TZ) θ st H) (h : RepV X.K θ H d v) (e : itemsOf d st = some xs) : ∃ (a : Addr) (vs : List V), v = .ref a ∧ (SqL X.K H a vs ∨ Pt X.K H a vs) ∧ RepVs X.K θ H xs vs := by
  unfold itemsOf at e
  split at e
  · cases e
    obtain ⟨a, vs, rfl, s1, r1⟩ := rep_tup.mp h
    exact ⟨a, vs, rfl, .inr s1, r1⟩
  · cases e
    obtain ⟨a, vs, rfl, s1, r1⟩ := rep_fl.mp h
    exact ⟨a, vs, rfl, .inl s1.sq, r1⟩
  · split at e
    · rename_i hx
      cases e
      obtain ⟨a, vs, rfl, _, e1, r1⟩ := hR.lstOf hx h
      exact ⟨a, vs, rfl, .inl (SqL.of e1), r1⟩
    · cases e
  · cases e
/-! ### built-ins -/
def lenM (ds : List D) (st : Sto) : Option (D × Sto) := match ds with
  | [.str z] => if z.length ≤ sizeLine then some (.int z.length, st) else none
  | [d] => (itemsOf d st).map fun xs => (.int xs.length, st)
  | _ => none
theorem call_lenM : CallR X (.builtin "len") (rC (gx X TZ) lenM) := by
  intro pins s σ H xs us Q I r ⟨θ, st, ds, hR, rr, d, s', e, q⟩
  unfold lenM at e
  split at e
  · split at e
    · rename_i z hz
      cases e
      obtain ⟨v, rfl, rv⟩ := rep_list1 rr
      cases rep_str.mp rv
      exact call_len_str pins s σ H _ us Q I r ⟨z, rfl, hz, q θ _ H (List.prefix_refl _) (Keep.refl _) hR (rep_int.mpr rfl)⟩
    · cases e
  · obtain ⟨ys, hy, ez⟩ := Option.map_eq_some_iff.mp e
    cases ez
    obtain ⟨v, rfl, rv⟩ := rep_list1 rr
    obtain ⟨a, vs, rfl, hs, r2⟩ := items_rep hR rv hy
    refine call_len_seq pins s σ H _ us Q I r ⟨a, vs, rfl, hs.imp_right Pt.sq, ?_⟩
    rw [← r2.length]
    exact q θ _ H (List.prefix_refl _) (Keep.refl _) hR (rep_int.mpr rfl)
  · cases e
def tupleM (ds : List D) (st : Sto) : Option (D × Sto) := match ds with
  | [d] => (itemsOf d st).map fun xs => (.tup xs, st)
  | _ => none
theorem call_tupleM : CallR X (.type "tuple") (rC (gx X TZ) tupleM) := by
  intro pins s σ H xs us Q I r ⟨θ, st, ds, hR, rr, d, s', e, q⟩
  unfold tupleM at e
  split at e
  · obtain ⟨ys, hy, ez⟩ := Option.map_eq_some_iff.mp e
    cases ez
    obtain ⟨v, rfl, rv⟩ := rep_list1 rr
    obtain ⟨a, vs, rfl, hs, r2⟩ := items_rep hR rv hy
    refine call_tupleF pins s σ H _ us Q I r ⟨a, vs, rfl, ?_⟩
    rcases hs with hs | hs
    · exact .inl ⟨hs, fin_tup hR r2 q⟩
    · exact .inr ⟨hs.sq, q θ _ H (List.prefix_refl _) (Keep.refl _) hR (rep_tup.mpr ⟨a, vs, rfl, hs, r2⟩)⟩
  · cases e
def listM (ds : List D) (st : Sto) : Option (D × Sto) := match ds with
  | [d] => (itemsOf d st).map fun xs => (.ref st.length, st ++ [.lst xs])
  | _ => none
theorem call_listM : CallR X (.type "list") (rC (gx X TZ) listM) := by
  intro pins s σ H xs us Q I r ⟨θ, st, ds, hR, rr, d, s', e, q⟩
  unfold listM at e
  split at e
  · obtain ⟨ys, hy, ez⟩ := Option.map_eq_some_iff.mp e
    cases ez
    obtain ⟨v, rfl, rv⟩ := rep_list1 rr
    obtain ⟨a, vs, rfl, hs, r2⟩ := items_rep hR rv hy
    exact call_list_of pins s σ H _ us Q I r ⟨a, vs, rfl, hs.imp_right Pt.sq, fun p hp => fin_lst hR r2 hp q⟩
  · cases e
def toIntM (ds : List D) (st : Sto) : Option (D × Sto) := match ds with
  | [.int i] => some (.int i, st)
  | [.bl b] => some (.int (if b then 1 else 0), st)
  | _ => none
theorem call_toIntM : CallR X (.type "int") (rC (gx X TZ) toIntM) := by
  intro pins s σ H xs us Q I r ⟨θ, st, ds, hR, rr, d, s', e, q⟩
  unfold toIntM at e
  split at e
  · cases e
    obtain ⟨v, rfl, rv⟩ := rep_list1 rr
    cases rep_int.mp rv
    exact call_int1 pins s σ H _ us Q I r (.inl ⟨_, rfl, q θ _ H (List.prefix_refl _) (Keep.refl _) hR (rep_int.mpr rfl)⟩)
  · cases e
    obtain ⟨v, rfl, rv⟩ := rep_list1 rr
    cases rep_bl.mp rv
    exact call_int1 pins s σ H _ us Q I r (.inr ⟨_, rfl, q θ _ H (List.prefix_refl _) (Keep.refl _) hR (rep_int.mpr rfl)⟩)
  · cases e
def toBoolM (ds : List D) (st : Sto) : Option (D × Sto) := match ds with
  | [.int i] => some (.bl (i != 0), st)
  | [.bl b] => some (.bl b, st)
  | _ => none
theorem call_toBoolM : CallR X (.type "bool") (rC (gx X TZ) toBoolM) := by
  intro pins s σ H xs us Q I r ⟨θ, st, ds, hR, rr, d, s', e, q⟩
  unfold toBoolM at e
  split at e
  · cases e
    obtain ⟨v, rfl, rv⟩ := rep_list1 rr
    cases rep_int.mp rv
    exact call_bool1 pins s σ H _ us Q I r (.inl ⟨_, rfl, q θ _ H (List.prefix_refl _) (Keep.refl _) hR (rep_bl.mpr rfl)⟩)
  · cases e
    obtain ⟨v, rfl, rv⟩ := rep_list1 rr
    cases rep_bl.mp rv
    exact call_bool1 pins s σ H _ us Q I r (.inr ⟨_, rfl, q θ _ H (List.prefix_refl _) (Keep.refl _) hR (rep_bl.mpr rfl)⟩)
  · cases e
def minI (a b : Int) : Int := if b < a then b else a
def maxI (a b : Int) : Int := if b > a then b else a
def min2M (ds : List D) (st : Sto) : Option (D × Sto) := match ds with
  | [.int i, .int j] => some (.int (minI i j), st)
  | _ => none
def max2M (ds : List D) (st : Sto) : Option (D × Sto) := match ds with
  | [.int i, .int j] => some (.int (maxI i j), st)
  | _ => none
theorem call_min2M (hc : X.calm = true) : CallR X (.builtin "min") (rC (gx X TZ) min2M) := by
  intro pins s σ H xs us Q I r ⟨θ, st, ds, hR, rr, d, s', e, q⟩
  unfold min2M at e
  split at e
  · cases e
    obtain ⟨v, w, rfl, rv, rw2⟩ := rep_list2 rr
    cases rep_int.mp rv
    cases rep_int.mp rw2
    exact call_min2 hc pins s σ H _ us Q I r ⟨_, _, rfl, q θ _ H (List.prefix_refl _) (Keep.refl _) hR (rep_int.mpr rfl)⟩
  · cases e
theorem call_max2M (hc : X.calm = true) : CallR X (.builtin "max") (rC (gx X TZ) max2M) := by
  intro pins s σ H xs us Q I r ⟨θ, st, ds, hR, rr, d, s', e, q⟩
  unfold max2M at e
  split at e
  · cases e
    obtain ⟨v, w, rfl, rv, rw2⟩ := rep_list2 rr
    cases rep_int.mp rv
    cases rep_int.mp rw2
    exact call_max2 hc pins s σ H _ us Q I r ⟨_, _, rfl, q θ _ H (List.prefix_refl _) (Keep.refl _) hR (rep_int.mpr rfl)⟩
  · cases e
/-- the ints of a list of the store -/
def lstInts (d : D) (st : Sto) : Option (List Int) := match d with
  | .ref n => match st[n]? with
    | some (.lst xs) => intsOf xs
    | _ => none
  | _ => none
theorem lstInts_rep {d : D} {v : V} {ns : List Int} (hR : Rel (gx X TZ) θ st H) (h : RepV X.K θ H d v) (e : lstInts d st = some ns) : ∃ a : Addr, v = .ref a ∧ SqL X.K H a (ns.map V.int) := by
  unfold lstInts at e
  split at e
  · split at e
    · rename_i hx
      obtain ⟨a, vs, rfl, _, e1, r1⟩ := hR.lstOf hx h
      rw [intsOf_some e] at r1
      rw [RepVs.ints.mp r1] at e1
      exact ⟨a, rfl, SqL.of e1⟩
    · cases e
  · cases e
def sumM (ds : List D) (st : Sto) : Option (D × Sto) := match ds with
  | [d] => (lstInts d st).map fun ns => (.int ns.sum, st)
  | _ => none
theorem call_sumM (hc : X.calm = true) : CallR X (.builtin "sum") (rC (gx X TZ) sumM) := by
  intro pins s σ H xs us Q I r ⟨θ, st, ds, hR, rr, d, s', e, q⟩
  unfold sumM at e
  split at e
  · obtain ⟨ys, hy, ez⟩ := Option.map_eq_some_iff.mp e
    cases ez
    obtain ⟨v, rfl, rv⟩ := rep_list1 rr
    obtain ⟨a, rfl, hs⟩ := lstInts_rep hR rv hy
    exact cr_sum hc pins s σ H _ us Q I r ⟨a, ys, rfl, hs, q θ _ H (List.prefix_refl _) (Keep.refl _) hR (rep_int.mpr rfl)⟩
  · cases e
/-- the greatest and the least of ints -/
def maxL : List Int → Int
  | [] => 0
  | [x] => x
  | x :: y :: r => max x (maxL (y :: r))
def minL : List Int → Int
  | [] => 0
  | [x] => x
  | x :: y :: r => min x (minL (y :: r))
theorem maxL_spec : ∀ {ns : List Int}, ns ≠ [] → maxL ns ∈ ns ∧ ∀ y ∈ ns, y ≤ maxL ns
  | [x], _ => by simp [maxL]
  | x :: y :: r, _ => by
    obtain ⟨h1, h2⟩ := maxL_spec (ns := y :: r) (by simp)
    unfold maxL
    refine ⟨?_, fun z hz => ?_⟩
    · by_cases h : x ≤ maxL (y :: r)
      · rw [Int.max_eq_right h]; exact List.mem_cons_of_mem _ h1
      · rw [Int.max_eq_left (by omega)]; exact List.mem_cons_self ..
    · rcases List.mem_cons.mp hz with rfl | hz
      · exact Int.le_max_left ..
      · exact Int.le_trans (h2 z hz) (Int.le_max_right ..)
theorem minL_spec : ∀ {ns : List Int}, ns ≠ [] → minL ns ∈ ns ∧ ∀ y ∈ ns, minL ns ≤ y
  | [x], _ => by simp [minL]
  | x :: y :: r, _ => by
    obtain ⟨h1, h2⟩ := minL_spec (ns := y :: r) (by simp)
    unfold minL
    refine ⟨?_, fun z hz => ?_⟩
    · by_cases h : x ≤ minL (y :: r)
      · rw [Int.min_eq_left h]; exact List.mem_cons_self ..
      · rw [Int.min_eq_right (by omega)]; exact List.mem_cons_of_mem _ h1
    · rcases List.mem_cons.mp hz with rfl | hz
      · exact Int.min_le_left ..
      · exact Int.le_trans (Int.min_le_right ..) (h2 z hz)
def max1M (ds : List D) (st : Sto) : Option (D × Sto) := match ds with
  | [d] => match lstInts d st with
    | some (n :: ns) => some (.int (maxL (n :: ns)), st)
    | _ => none
  | _ => none
def min1M (ds : List D) (st : Sto) : Option (D × Sto) := match ds with
  | [d] => match lstInts d st with
    | some (n :: ns) => some (.int (minL (n :: ns)), st)
    | _ => none
  | _ => none
theorem call_max1M (hc : X.calm = true) : CallR X (.builtin "max") (rC (gx X TZ) max1M) := by
  intro pins s σ H xs us Q I r ⟨θ, st, ds, hR, rr, d, s', e, q⟩
  unfold max1M at e
  split at e
  · split at e
    · rename_i n ns hy
      cases e
      obtain ⟨v, rfl, rv⟩ := rep_list1 rr
      obtain ⟨a, rfl, hs⟩ := lstInts_rep hR rv hy
      obtain ⟨g1, g2⟩ := maxL_spec (ns := n :: ns) (by simp)
      refine cr_max hc pins s σ H _ us Q I r ⟨a, _, rfl, hs, by simp, fun m hm h => ?_⟩
      have : m = maxL (n :: ns) := Int.le_antisymm (g2 m hm) (h _ g1)
      subst this
      exact q θ _ H (List.prefix_refl _) (Keep.refl _) hR (rep_int.mpr rfl)
    · cases e
  · cases e
theorem call_min1M (hc : X.calm = true) : CallR X (.builtin "min") (rC (gx X TZ) min1M) := by
  intro pins s σ H xs us Q I r ⟨θ, st, ds, hR, rr, d, s', e, q⟩
  unfold min1M at e
  split at e
  · split at e
    · rename_i n ns hy
      cases e
      obtain ⟨v, rfl, rv⟩ := rep_list1 rr
      obtain ⟨a, rfl, hs⟩ := lstInts_rep hR rv hy
      obtain ⟨g1, g2⟩ := minL_spec (ns := n :: ns) (by simp)
      refine cr_min hc pins s σ H _ us Q I r ⟨a, _, rfl, hs, by simp, fun m hm h => ?_⟩
      have : m = minL (n :: ns) := Int.le_antisymm (h _ g1) (g2 m hm)
      subst this
      exact q θ _ H (List.prefix_refl _) (Keep.refl _) hR (rep_int.mpr rfl)
    · cases e
  · cases e
def lstBls (d : D) (st : Sto) : Option (List Bool) := match d with
  | .ref n => match st[n]? with
    | some (.lst xs) => blsOf xs
    | _ => none
  | _ => none
theorem lstBls_rep {d : D} {v : V} {ns : List Bool} (hR : Rel (gx X TZ) θ st H) (h : RepV X.K θ H d v) (e : lstBls d st = some ns) : ∃ a : Addr, v = .ref a ∧ SqL X.K H a (ns.map V.bl) := by
  unfold lstBls at e
  split at e
  · split at e
    · rename_i hx
      obtain ⟨a, vs, rfl, _, e1, r1⟩ := hR.lstOf hx h
      rw [blsOf_some e] at r1
      rw [RepVs.bls.mp r1] at e1
      exact ⟨a, rfl, SqL.of e1⟩
    · cases e
  · cases e
def allM (ds : List D) (st : Sto) : Option (D × Sto) := match ds with
  | [d] => (lstBls d st).map fun bs => (.bl (bs.all id), st)
  | _ => none
def anyM (ds : List D) (st : Sto) : Option (D × Sto) := match ds with
  | [d] => (lstBls d st).map fun bs => (.bl (bs.any id), st)
  | _ => none
theorem call_allM (hc : X.calm = true) : CallR X (.builtin "all") (rC (gx X TZ) allM) := by
  intro pins s σ H xs us Q I r ⟨θ, st, ds, hR, rr, d, s', e, q⟩
  unfold allM at e
  split at e
  · obtain ⟨ys, hy, ez⟩ := Option.map_eq_some_iff.mp e
    cases ez
    obtain ⟨v, rfl, rv⟩ := rep_list1 rr
    obtain ⟨a, rfl, hs⟩ := lstBls_rep hR rv hy
    exact cr_all hc pins s σ H _ us Q I r ⟨a, ys, rfl, hs, q θ _ H (List.prefix_refl _) (Keep.refl _) hR (rep_bl.mpr rfl)⟩
  · cases e
theorem call_anyM (hc : X.calm = true) : CallR X (.builtin "any") (rC (gx X TZ) anyM) := by
  intro pins s σ H xs us Q I r ⟨θ, st, ds, hR, rr, d, s', e, q⟩
  unfold anyM at e
  split at e
  · obtain ⟨ys, hy, ez⟩ := Option.map_eq_some_iff.mp e
    cases ez
    obtain ⟨v, rfl, rv⟩ := rep_list1 rr
    obtain ⟨a, rfl, hs⟩ := lstBls_rep hR rv hy
    exact cr_any hc pins s σ H _ us Q I r ⟨a, ys, rfl, hs, q θ _ H (List.prefix_refl _) (Keep.refl _) hR (rep_bl.mpr rfl)⟩
  · cases e
/-! ### isinstance -/
/-- the name of a value's type, where it is told -/
def tyName (d : D) (st : Sto) : Option Nat := match d with
  | .fl _ => none
  | .wt _ => none
  | .non => some 0
  | .bl _ => some 1
  | .int _ => some 2
  | .str _ => some 3
  | .tup _ => some 4
  | .ref n => match st[n]? with
    | some (.lst _) => some 5
    | _ => none
/-- which of the types 0: None, 1: bool, 2: int, 3: str, 4: tuple, 5: list are of T -/
def isiT (T : String) (n : Nat) : Bool := match T with
  | "int" => n == 1 || n == 2
  | "bool" => n == 1
  | "str" => n == 3
  | "tuple" => n == 4
  | "list" => n == 5
  | _ => false
def isiOk (T : String) : Bool := T == "int" || T == "bool" || T == "str" || T == "tuple" || T == "list"
def cIsi (T : String) (m : C) : C := fun ρ st => (m ρ st).bind fun d s => match tyName d s with
  | some n => .ok (.bl (isiT T n)) s
  | none => .no
theorem isi_fact {T : String} (hT : isiOk T = true) {θ : List Addr} {st : Sto} {H : Hp} {d : D} {v : V} {n : Nat} (hR : Rel (gx X TZ) θ st H) (r : RepV X.K θ H d v) (e : tyName d st = some n) : ∃ t, TyX X.K H v t ∧ PySem.W.kitOne X.K t (.type T) = some (isiT T n) := by
  have hT2 : T = "int" ∨ T = "bool" ∨ T = "str" ∨ T = "tuple" ∨ T = "list" := by
    unfold isiOk at hT
    simp only [Bool.or_eq_true, beq_iff_eq] at hT
    rcases hT with (((h | h) | h) | h) | h
    · exact .inl h
    · exact .inr (.inl h)
    · exact .inr (.inr (.inl h))
    · exact .inr (.inr (.inr (.inl h)))
    · exact .inr (.inr (.inr (.inr h)))
  unfold tyName at e
  cases d with
  | non => cases e; cases rep_non.mp r; refine ⟨_, .base .non, ?_⟩; rcases hT2 with rfl | rfl | rfl | rfl | rfl <;> exact kit_ty (by decide +kernel)
  | bl b => cases e; cases rep_bl.mp r; refine ⟨_, .base (.bl _), ?_⟩; rcases hT2 with rfl | rfl | rfl | rfl | rfl <;> exact kit_ty (by decide +kernel)
  | int i => cases e; cases rep_int.mp r; refine ⟨_, .base (.int _), ?_⟩; rcases hT2 with rfl | rfl | rfl | rfl | rfl <;> exact kit_ty (by decide +kernel)
  | str z => cases e; cases rep_str.mp r; refine ⟨_, .base (.str _), ?_⟩; rcases hT2 with rfl | rfl | rfl | rfl | rfl <;> exact kit_ty (by decide +kernel)
  | tup xs =>
    cases e
    obtain ⟨a, vs, rfl, s1, _⟩ := rep_tupE r
    have ty : TyX X.K H (.ref a) (.type "tuple") := by
      rcases s1 with (h | ⟨o, h⟩) | ⟨o, its, n, h1, h2, _⟩
      · exact .base (.tup h)
      · exact .fTuple h
      · exact .kTuple h1 h2
    refine ⟨_, ty, ?_⟩; rcases hT2 with rfl | rfl | rfl | rfl | rfl <;> exact kit_ty (by decide +kernel)
  | fl xs => cases e
  | wt xs => cases e
  | ref k =>
    simp only at e
    split at e
    · rename_i hx
      cases e
      obtain ⟨a, vs, rfl, _, e1, _⟩ := hR.lstOf hx r
      refine ⟨_, .base (.lst e1), ?_⟩; rcases hT2 with rfl | rfl | rfl | rfl | rfl <;> exact kit_ty (by decide +kernel)
    · cases e
theorem re_isi {T : String} {e : Expr} {m : C} {x : Str} {p p2 pos : Pos} (hT : isiOk T = true) (hg : Gl X "isinstance") (hm : X.mg "isinstance" = none) (hgT : Gl X x) (hmT : X.mg x = none) (hv : bootBuiltins x = some (.type T)) (he : RE X TZ F W e m) (hn : x ≠ "__name__" := by decide) (hdb : (x == ("__debug__" : Str)) = false := by decide)
    (hs : starEach [e, .Name x p2] X.env = (false, eval e X.env) :: starEach [.Name x p2] X.env := by rfl) (hs2 : starEach [.Name x p2] X.env = (false, eval (.Name x p2) X.env) :: starEach [] X.env := by rfl) (hpl : (backTo pos (starEach [.Name x p2] X.env)).any (·.1) = false := by rfl) :
    RE X TZ F W (.Call (.Name "isinstance" p) [e, .Name x p2] [] pos) (cIsi T m) := by
  refine PE.imp (pe_callB call_isi hg hm (by decide +kernel) (pa_cons he (pa_cons (pe_bltn (v := .ty T) (u := .type T) hgT hmT hv rfl hn hdb) pa_nil hs2) hs) (by decide) (by decide) hs hpl) fun σ H Q ⟨θ, st, ρ, hR, hE, q⟩ => ?_
  refine ⟨θ, st, ρ, hR, hE, q.seq fun θ1 d s1 v H1 p1 k1 R1 r1 h1 => ?_⟩
  split at h1
  · rename_i n hn
    obtain ⟨t, ht, hk⟩ := isi_fact hT R1 r1 hn
    exact ⟨v, .ty T, t, .type T, isiT T n, rfl, .ty _, ht, hk, h1.now R1 (rep_bl.mpr rfl)⟩
  · exact h1.elim
/-! ### methods -/
/-- a method of a list: by the list's number, its items, the arguments: the answer, the new items -/
def cMethL (f : List D → List D → Option (D × List D)) (o : C) (r : AL) : C := fun ρ st => (o ρ st).bind fun d s => match d with
  | .ref n => match s[n]? with
    | some (.lst _) => (r ρ s).bind fun ds s2 => match s2[n]? with
      | some (.lst xs) => match f xs ds with
        | some (v, ys) => .ok v (s2.set n (.lst ys))
        | none => .no
      | _ => .no
    | _ => .no
  | _ => .no
def appendM (xs ds : List D) : Option (D × List D) := match ds with
  | [y] => if xs.length < sizeLine then some (.non, xs ++ [y]) else none
  | _ => none
def popM (xs ds : List D) : Option (D × List D) := match ds with
  | [] => match xs[xs.length - 1]? with
    | some y => some (y, xs.dropLast)
    | none => none
  | _ => none
def popAtM (xs ds : List D) : Option (D × List D) := match ds with
  | [.int i] => if -(2 ^ 63) ≤ i ∧ i < 2 ^ 63 then match seqIndex? i xs.length with
      | some k => match xs[k]? with
        | some y => some (y, xs.eraseIdx k)
        | none => none
      | none => none
    else none
  | _ => none
def insertM (xs ds : List D) : Option (D × List D) := match ds with
  | [.int i, y] => if xs.length < sizeLine ∧ 0 ≤ i ∧ i < 2 ^ 63 then some (.non, xs.take i.toNat ++ [y] ++ xs.drop i.toNat) else none
  | _ => none
/-- what a method's rule says of lists whose items are xs -/
def MethOk (K : PySem.W.Frag) (r : V → List V → Hp → VK → Prop) (f : List D → List D → Option (D × List D)) : Prop := ∀ (θ : List Addr) (H : Hp) (a : Addr) (xs ds ys : List D) (vs ws : List V) (d : D) (Q : VK), H a = some (.lst vs) → RepVs K θ H xs vs → RepVs K θ H ds ws → f xs ds = some (d, ys) →
  (∀ v zs, RepV K θ H d v → RepVs K θ H ys zs → Q v (upd H a (.lst zs))) → r (.ref a) ws H Q
theorem meth_append : MethOk X.K rAppend appendM := by
  intro θ H a xs ds ys vs ws d Q ha rx rd e q
  unfold appendM at e
  split at e
  · split at e
    · rename_i hl
      cases e
      obtain ⟨w, rfl, rw2⟩ := rep_list1 rd
      exact ⟨a, vs, w, rfl, rfl, ha, by rw [← rx.length]; exact hl, q .non _ (rep_non.mpr rfl) (rx.append (.cons rw2 .nil_iff))⟩
    · cases e
  · cases e
theorem RepVs.dropLast {K : PySem.W.Frag} {θ : List Addr} {H : Hp} {ds : List D} {vs : List V} (r : RepVs K θ H ds vs) : RepVs K θ H ds.dropLast vs.dropLast := by
  rw [List.dropLast_eq_take, List.dropLast_eq_take, r.length]
  exact r.take _
theorem rep_nil {K : PySem.W.Frag} {θ : List Addr} {H : Hp} {vs : List V} (h : RepVs K θ H [] vs) : vs = [] := by unfold RepVs at h; exact h
theorem meth_pop : MethOk X.K rPop popM := by
  intro θ H a xs ds ys vs ws d Q ha rx rd e q
  unfold popM at e
  split at e
  · split at e
    · rename_i y hy
      cases e
      cases rep_nil rd
      obtain ⟨v, hv, rv⟩ := rx.get hy
      exact ⟨a, vs, v, rfl, rfl, ha, by rw [← rx.length]; exact hv, q v _ rv rx.dropLast⟩
    · cases e
  · cases e
theorem meth_popAt : MethOk X.K rPopAt popAtM := by
  intro θ H a xs ds ys vs ws d Q ha rx rd e q
  unfold popAtM at e
  split at e
  · split at e
    · rename_i i hi
      split at e
      · rename_i k hk
        split at e
        · rename_i y hy
          cases e
          obtain ⟨w, rfl, rw2⟩ := rep_list1 rd
          cases rep_int.mp rw2
          obtain ⟨v, hv, rv⟩ := rx.get hy
          exact ⟨a, vs, i, k, v, rfl, rfl, ha, hi.1, hi.2, by rw [← rx.length]; exact hk, hv, q v _ rv (rx.erase k)⟩
        · cases e
      · cases e
    · cases e
  · cases e
theorem re_meth {id name : String} {r : V → List V → Hp → VK → Prop} {f : List D → List D → Option (D × List D)} {o e : Expr} {es : List Expr} {mo : C} {rs : AL} {apos cpos : Pos} (pa : PlainAttrs "list") (slot : Slot "list" name id) (hty : typeOf (.builtin id) = pure (.type "method_descriptor")) (hm : MtR X id r) (hf : MethOk X.K r f) (ho : RE X TZ F W o mo) (ha : RA X TZ F W (e :: es) rs)
    (hbase : attributeBase o name X.env (eval o X.env) = eval o X.env := by rfl)
    (hfew : ((backTo cpos (starEach (e :: es) X.env)).all (fun x => !x.1) && (backToKw cpos (keywordEach [] X.env)).all (fun x => x.1.isSome)
      && decide ((e :: es).length + ([] : List Keyword).length + (if ([] : List Keyword).isEmpty then 0 else 1) < 30)) = true := by rfl)
    (hline : (apos.endLine == cpos.line) = true := by rfl) (hs : starEach (e :: es) X.env = (false, eval e X.env) :: starEach es X.env := by rfl) (hplain : (backTo cpos (starEach es X.env)).any (·.1) = false := by rfl) : RE X TZ F W (.Call (.Attribute o name apos) (e :: es) [] cpos) (cMethL f mo rs) := by
  refine PE.imp (pe_bm pa slot hty hm ho ha hbase hfew hline hs hplain) fun σ H Q ⟨θ, st, ρ, hR, hE, q⟩ => ?_
  refine ⟨θ, st, ρ, hR, hE, q.seq fun θ1 d s1 v H1 p1 k1 R1 r1 h1 => ?_⟩
  split at h1
  · rename_i n
    split at h1
    · rename_i xs0 hx0
      obtain ⟨a, vs0, rfl, ea, e0, _⟩ := R1.lstOf hx0 r1
      refine ⟨.inl ⟨rfl, vs0, SqL.of e0⟩, ⟨θ1, s1, ρ, R1, hE.step p1 k1, h1.seq fun θ2 ds s2 ws H2 p2 k2 R2 r2 h2 => ?_⟩⟩
      split at h2
      · rename_i xs hx
        split at h2
        · rename_i w ys hw
          obtain ⟨vs, e1, r3⟩ := R2.lst_at hx (pre_get p2 ea)
          refine hf θ2 H2 a xs ds ys vs ws w Q e1 r3 r2 hw fun u zs ru rz => ?_
          have kk := Keep.list (o := .lst zs) e1
          exact h2 θ2 u _ (List.prefix_refl _) kk (R2.set hx (pre_get p2 ea) e1 rz) (ru.step (List.prefix_refl _) kk)
        · exact h2.elim
      · exact h2.elim
    · exact h1.elim
  · exact h1.elim
theorem re_meth0 {id name : String} {r : V → List V → Hp → VK → Prop} {f : List D → List D → Option (D × List D)} {o : Expr} {mo : C} {apos cpos : Pos} (pa : PlainAttrs "list") (slot : Slot "list" name id) (hty : typeOf (.builtin id) = pure (.type "method_descriptor")) (hm : MtR X id r) (hf : MethOk X.K r f) (ho : RE X TZ F W o mo)
    (hx : ∀ to, PE X o to → PE X (.Call (.Attribute o name apos) [] [] cpos) (tBM0 X.K "list" r to)) : RE X TZ F W (.Call (.Attribute o name apos) [] [] cpos) (cMethL f mo aNil) := by
  refine PE.imp (hx _ ho) fun σ H Q ⟨θ, st, ρ, hR, hE, q⟩ => ?_
  refine ⟨θ, st, ρ, hR, hE, q.seq fun θ1 d s1 v H1 p1 k1 R1 r1 h1 => ?_⟩
  split at h1
  · rename_i n
    split at h1
    · rename_i xs0 hx0
      obtain ⟨a, vs0, rfl, ea, e0, _⟩ := R1.lstOf hx0 r1
      refine ⟨.inl ⟨rfl, vs0, SqL.of e0⟩, ?_⟩
      have h2 : Res (gx X TZ) (rV (gx X TZ)) W σ θ1 H1 (match s1[n]? with
        | some (.lst xs) => match f xs [] with
          | some (v, ys) => .ok v (s1.set n (.lst ys))
          | none => .no
        | _ => .no) Q := h1
      split at h2
      · rename_i xs hx
        split at h2
        · rename_i w ys hw
          obtain ⟨vs, e1, r3⟩ := R1.lst_at hx ea
          refine hf θ1 H1 a xs [] ys vs [] w Q e1 r3 .nil_iff hw fun u zs ru rz => ?_
          have kk := Keep.list (o := .lst zs) e1
          exact h2 θ1 u _ (List.prefix_refl _) kk (R1.set hx ea e1 rz) (ru.step (List.prefix_refl _) kk)
        · exact h2.elim
      · exact h2.elim
    · exact h1.elim
  · exact h1.elim
theorem meth_insert : MethOk X.K (fun x vs H Q => ∃ (l : Addr) (xs : List V) (i : Int) (y : V), x = .ref l ∧ vs = [.int i, y] ∧ H l = some (.lst xs) ∧ xs.length < sizeLine ∧ 0 ≤ i ∧ i < 2 ^ 63 ∧ Q .non (upd H l (.lst (xs.take i.toNat ++ [y] ++ xs.drop i.toNat)))) insertM := by
  intro θ H a xs ds ys vs ws d Q ha rx rd e q
  unfold insertM at e
  split at e
  · split at e
    · rename_i i y hl
      cases e
      obtain ⟨w1, w2, rfl, ri, rw2⟩ := rep_list2 rd
      cases rep_int.mp ri
      exact ⟨a, vs, i, w2, rfl, rfl, ha, by rw [← rx.length]; exact hl.1, hl.2.1, hl.2.2, q .non _ (rep_non.mpr rfl) (((rx.take _).append (.cons rw2 .nil_iff)).append (rx.drop _))⟩
    · cases e
  · cases e
/-! ### slices -/
abbrev Po := En → Sto → R (Option Int)
def poNone : Po := fun _ st => .ok none st
def poSome (m : C) : Po := fun ρ st => (m ρ st).bind fun d s => match d with
  | .int i => .ok (some i) s
  | _ => .no
abbrev rO : List Addr → Hp → Option Int → Option Int → Prop := fun _ _ a b => a = b
def RO2 (X : Cx) (TZ : Tabz) (F : Fx) (W : WX) (e : Option Expr) (m : Po) : Prop := PO X e (tM (gx X TZ) F W rO m)
theorem PO.imp {X : Cx} {e : Option Expr} {t t' : TO} (h : PO X e t) (i : ∀ σ H Q, t' σ H Q → t σ H Q) : PO X e t' := ⟨fun pins s σ H Q I q => h.run pins s σ H Q I (i _ _ _ q)⟩
theorem ro_none : RO2 X TZ F W none poNone := PO.imp po_none fun σ H Q ⟨θ, st, ρ, hR, hE, q⟩ => q.now hR rfl
theorem ro_some {e : Expr} {m : C} (h : RE X TZ F W e m) : RO2 X TZ F W (some e) (poSome m) := PO.imp (po_some h) fun σ H Q ⟨θ, st, ρ, hR, hE, q⟩ => by
  refine ⟨θ, st, ρ, hR, hE, q.seq fun θ1 d s1 v H1 p1 k1 R1 r1 h1 => ?_⟩
  split at h1
  · exact ⟨_, rep_int.mp r1, h1.now R1 rfl⟩
  · exact h1.elim
def cutD {α : Type} (xs : List α) (lo hi : Option Int) : List α := (xs.drop (HT.sIx xs.length 0 lo)).take (HT.sIx xs.length xs.length hi - HT.sIx xs.length 0 lo)
def slM (d : D) (lo hi : Option Int) (st : Sto) : Option (D × Sto) := match d with
  | .tup xs => some (.tup (cutD xs lo hi), st)
  | .ref n => match st[n]? with
    | some (.lst xs) => some (.ref st.length, st ++ [.lst (cutD xs lo hi)])
    | _ => none
  | .fl xs => some (.ref st.length, st ++ [.lst (cutD xs lo hi)])
  | .str z => if z.length ≤ sizeLine then some (.str (cutS z lo hi), st) else none
  | _ => none
def cSl (m : C) (lo hi : Po) : C := fun ρ st => (m ρ st).bind fun d s1 => (lo ρ s1).bind fun l s2 => (hi ρ s2).bind fun u s3 => lift (slM d l u s3)
theorem RepVs.cut {K : PySem.W.Frag} {θ : List Addr} {H : Hp} {ds : List D} {vs : List V} (r : RepVs K θ H ds vs) (lo hi : Option Int) : RepVs K θ H (cutD ds lo hi) (cutV vs lo hi) := by
  unfold cutD L2.cutV
  rw [r.length]
  exact (r.drop _).take _
def rSlM (X : Cx) (TZ : Tabz) : V → Option Int → Option Int → Hp → VK → Prop := fun x lo hi H Q => ∃ (θ : List Addr) (st : Sto) (d : D), Rel (gx X TZ) θ st H ∧ RepV X.K θ H d x ∧ ∃ r s', slM d lo hi st = some (r, s') ∧
  ∀ (θ' : List Addr) (v : V) (H' : Hp), θ <+: θ' → Keep H H' → Rel (gx X TZ) θ' s' H' → RepV X.K θ' H' r v → Q v H'
theorem sl_M : SlR X (rSlM X TZ) := by
  intro pins s σ H x v vl vu lo hi sl Q I rx hs pl pu ⟨θ, st, d, hR, hd, r, s', e, q⟩
  unfold slM at e
  split at e
  · rename_i xs
    cases e
    obtain ⟨a, vs, rfl, s1, r1⟩ := rep_tup.mp hd
    refine sl_tupF pins s σ H _ v vl vu lo hi sl Q I rx hs pl pu ⟨a, vs, rfl, s1.sq, fun hw => ?_, fun hw => fin_tup hR (r1.cut lo hi) q⟩
    refine q θ _ H (List.prefix_refl _) (Keep.refl _) hR (rep_tup.mpr ⟨a, vs, rfl, s1, ?_⟩)
    have hx : cutD xs lo hi = xs := by
      unfold cutD
      rw [r1.length, hw.1, hw.2]
      simp [← r1.length]
    rw [hx]
    exact r1
  · split at e
    · rename_i hx
      cases e
      obtain ⟨a, vs, rfl, _, e1, r1⟩ := hR.lstOf hx hd
      exact sl_list pins s σ H _ v vl vu lo hi sl Q I rx hs pl pu ⟨a, vs, rfl, SqL.of e1, fun p hp => fin_lst hR (r1.cut lo hi) hp q⟩
    · cases e
  · cases e
    obtain ⟨a, vs, rfl, s1, r1⟩ := rep_fl.mp hd
    exact sl_list pins s σ H _ v vl vu lo hi sl Q I rx hs pl pu ⟨a, vs, rfl, s1.sq, fun p hp => fin_lst hR (r1.cut lo hi) hp q⟩
  · split at e
    · rename_i z hz
      cases e
      cases rep_str.mp hd
      exact sl_str pins s σ H _ v vl vu lo hi sl Q I rx hs pl pu ⟨z, rfl, hz, q θ _ H (List.prefix_refl _) (Keep.refl _) hR (rep_str.mpr rfl)⟩
    · cases e
  · cases e
theorem re_slice {e : Expr} {lo hi : Option Expr} {m : C} {ml mh : Po} {p2 pos : Pos} (he : RE X TZ F W e m) (hl : RO2 X TZ F W lo ml) (hu : RO2 X TZ F W hi mh) : RE X TZ F W (.Subscript e (.Slice lo hi none p2) pos) (cSl m ml mh) := by
  refine PE.imp (pe_slice (sl_M (TZ := TZ)) he hl hu) fun σ H Q ⟨θ, st, ρ, hR, hE, q⟩ => ?_
  refine ⟨θ, st, ρ, hR, hE, q.seq fun θ1 d s1 v H1 p1 k1 R1 r1 h1 => ⟨θ1, s1, ρ, R1, hE.step p1 k1, h1.seq fun θ2 l s2 l' H2 p2 k2 R2 r2 h2 => ?_⟩⟩
  cases r2
  refine ⟨θ2, s2, ρ, R2, (hE.step p1 k1).step p2 k2, h2.seq fun θ3 u s3 u' H3 p3 k3 R3 r3 h3 => ?_⟩
  cases r3
  obtain ⟨r, s', e, qq⟩ := res_lift h3
  exact ⟨θ3, s3, d, R3, (r1.step p2 k2).step p3 k3, r, s', e, qq⟩
/-- e[::-1] -/
def revM (d : D) (st : Sto) : Option (D × Sto) := match d with
  | .tup xs => some (.tup xs.reverse, st)
  | .ref n => match st[n]? with
    | some (.lst xs) => some (.ref st.length, st ++ [.lst xs.reverse])
    | _ => none
  | _ => none
def cRev (m : C) : C := fun ρ st => (m ρ st).bind fun d s => lift (revM d s)
theorem PE.or {X : Cx} {e : Expr} {t u : TE} (a : PE X e t) (b : PE X e u) : PE X e (fun σ H Q => t σ H Q ∨ u σ H Q) := ⟨fun pins s σ H Q I h => h.elim (a.run pins s σ H Q I) (b.run pins s σ H Q I)⟩
theorem re_rev {e : Expr} {m : C} {k : Nat} {p1 p2 p3 pos : Pos} (he : RE X TZ F W e m) : RE X TZ F W (.Subscript e (.Slice none none (some (.UnaryOp .USub (.Constant (.int 1) k p1) p2)) p3) pos) (cRev m) := by
  refine PE.imp (PE.or (pe_revL he) (pe_revF he)) fun σ H Q ⟨θ, st, ρ, hR, hE, q⟩ => ?_
  unfold cRev at q
  cases e0 : m ρ st with
  | no => rw [e0] at q; exact q.elim
  | ex c d s => exact .inl ⟨θ, st, ρ, hR, hE, by rw [e0] at q ⊢; exact q⟩
  | ok d s =>
    rw [e0] at q
    obtain ⟨r, s', er, qq⟩ := res_lift q
    unfold revM at er
    split at er
    · cases er
      refine .inr ⟨θ, st, ρ, hR, hE, res_ok e0 fun θ1 v H1 p1 k1 R1 r1 => ?_⟩
      obtain ⟨a, vs, rfl, s1, r1⟩ := rep_tupE r1
      exact ⟨a, vs, rfl, s1, fin_tup R1 r1.reverse fun θ2 v H2 p2 k2 => qq θ2 v H2 (p1.trans p2) (k1.trans k2)⟩
    · split at er
      · rename_i hx
        cases er
        refine .inl ⟨θ, st, ρ, hR, hE, res_ok e0 fun θ1 v H1 p1 k1 R1 r1 => ?_⟩
        obtain ⟨a, vs, rfl, _, e1, r1⟩ := R1.lstOf hx r1
        exact ⟨a, vs, rfl, SqL.of e1, fun p hp => fin_lst R1 r1.reverse hp fun θ2 v H2 p2 k2 => qq θ2 v H2 (p1.trans p2) (k1.trans k2)⟩
      · cases er
    · cases er
/-! ### in, not in -/
def flatD : D → Bool
  | .non => true
  | .bl _ => true
  | .int _ => true
  | .str _ => true
  | _ => false
def eqF : D → D → Bool
  | .non, .non => true
  | .bl a, .bl b => a == b
  | .bl a, .int b => (if a then 1 else 0) == b
  | .int a, .bl b => a == (if b then 1 else 0)
  | .int a, .int b => a == b
  | .str a, .str b => a == b
  | _, _ => false
def inB (x y : D) (st : Sto) : Option Bool := match itemsOf y st with
  | some xs => if (flatD x && xs.all flatD) = true then some (xs.any fun y => eqF y x) else none
  | none => none
def inM (x y : D) (st : Sto) : Option (D × Sto) := (inB x y st).map fun b => (.bl b, st)
def notInM (x y : D) (st : Sto) : Option (D × Sto) := (inB x y st).map fun b => (.bl (!b), st)
theorem flat_rep {K : PySem.W.Frag} {d : D} {v : V} (h : flatD d = true) (r : RepV K θ H d v) : flatV v = true := by
  cases d with
  | non => cases rep_non.mp r; rfl
  | bl b => cases rep_bl.mp r; rfl
  | int b => cases rep_int.mp r; rfl
  | str b => cases rep_str.mp r; rfl
  | tup xs => cases h
  | ref n => cases h
  | fl xs => cases h
  | wt xs => cases h
theorem eqF_rep {K : PySem.W.Frag} {d e : D} {v w : V} (h : flatD d = true) (h2 : flatD e = true) (r : RepV K θ H d v) (r2 : RepV K θ H e w) : eqV v w = eqF d e := by
  cases d <;> first | cases h | skip
  all_goals (cases e <;> first | cases h2 | skip)
  all_goals (first | cases rep_non.mp r | cases rep_bl.mp r | cases rep_int.mp r | cases rep_str.mp r)
  all_goals (first | cases rep_non.mp r2 | cases rep_bl.mp r2 | cases rep_int.mp r2 | cases rep_str.mp r2)
  all_goals rfl
theorem inB_rep {K : PySem.W.Frag} {x : D} {v : V} (hx : flatD x = true) (r : RepV K θ H x v) : ∀ {xs : List D} {vs : List V}, RepVs K θ H xs vs → xs.all flatD = true → vs.all flatV = true ∧ inV v vs = xs.any fun y => eqF y x
  | [], vs, h, _ => by cases rep_nil h; exact ⟨rfl, rfl⟩
  | d :: ds, vs, h, f => by
    unfold RepVs at h
    obtain ⟨w, r', rfl, h1, h2⟩ := h
    rw [List.all_cons, Bool.and_eq_true] at f
    obtain ⟨g1, g2⟩ := inB_rep hx r h2 f.2
    unfold L2.inV at g2 ⊢
    refine ⟨by rw [List.all_cons, flat_rep f.1 h1, g1]; rfl, ?_⟩
    rw [List.any_cons, List.any_cons, g2, eqF_rep f.1 hx h1 r]
theorem op_inM : OpR X (compareOp .In) (rM (gx X TZ) inM) := by
  intro pins s σ H x y v u Q I rx ry ⟨θ, st, d, e, hR, hd, he, r, s', hr, q⟩
  obtain ⟨b, hb, ez⟩ := Option.map_eq_some_iff.mp hr
  cases ez
  unfold inB at hb
  split at hb
  · rename_i xs hxs
    split at hb
    · rename_i hf
      cases hb
      rw [Bool.and_eq_true] at hf
      obtain ⟨a, vs, rfl, hs, r1⟩ := items_rep hR he hxs
      obtain ⟨g1, g2⟩ := inB_rep hf.1 hd r1 hf.2
      refine op_in_seq pins s σ H _ _ v u Q I rx ry ⟨a, vs, rfl, hs.imp_right Pt.sq, flat_rep hf.1 hd, g1, ?_⟩
      rw [g2]
      exact q θ _ H (List.prefix_refl _) (Keep.refl _) hR (rep_bl.mpr rfl)
    · cases hb
  · cases hb
theorem op_notInM : OpR X (compareOp .NotIn) (rM (gx X TZ) notInM) := by
  intro pins s σ H x y v u Q I rx ry ⟨θ, st, d, e, hR, hd, he, r, s', hr, q⟩
  obtain ⟨b, hb, ez⟩ := Option.map_eq_some_iff.mp hr
  cases ez
  unfold inB at hb
  split at hb
  · rename_i xs hxs
    split at hb
    · rename_i hf
      cases hb
      rw [Bool.and_eq_true] at hf
      obtain ⟨a, vs, rfl, hs, r1⟩ := items_rep hR he hxs
      obtain ⟨g1, g2⟩ := inB_rep hf.1 hd r1 hf.2
      refine op_notIn_seq pins s σ H _ _ v u Q I rx ry ⟨a, vs, rfl, hs.imp_right Pt.sq, flat_rep hf.1 hd, g1, ?_⟩
      rw [g2]
      exact q θ _ H (List.prefix_refl _) (Keep.refl _) hR (rep_bl.mpr rfl)
    · cases hb
  · cases hb
end
end Rg

/-! further built-ins -/
namespace Rg
open PySem PySem.Spec PyProof.Rows L2 Fs
section
variable {X : Cx} {TZ : Tabz} {F : Fx} {W : WX} {θ : List Addr} {H : Hp} {st : Sto}
/-! ### is -/
def isB : D → D → Option Bool
  | .non, .non => some true
  | .bl a, .bl b => some (a == b)
  | .bl _, .non | .int _, .non | .str _, .non | .tup _, .non | .ref _, .non => some false
  | .non, .bl _ | .int _, .bl _ | .str _, .bl _ | .tup _, .bl _ | .ref _, .bl _ => some false
  | _, _ => none
def isM (x y : D) (st : Sto) : Option (D × Sto) := (isB x y).map fun b => (.bl b, st)
def isNotM (x y : D) (st : Sto) : Option (D × Sto) := (isB x y).map fun b => (.bl (!b), st)
theorem is_two {pins : List (Addr × Obj)} {s : Shared} {σ : L2.St} {v u : Value} {Q : VK} {x y : D} {a b : V} {r : Bool} (I : Inv X pins σ H s) (ra : RepV X.K θ H x a) (rb : RepV X.K θ H y b) (rx : RelV a v) (ry : RelV b u) (e : isB x y = some r) (q : Q (.bl r) H) : wpAny (model X.prog X.w) X.A (compareOp .Is v u) (EP X pins σ Q) X.xe s := by
  have other : plainIs v u = true → v ≠ u → r = false → wpAny (model X.prog X.w) X.A (compareOp .Is v u) (EP X pins σ Q) X.xe s := fun h1 h2 h3 => by
    subst h3
    exact wpAny_is_other h1 h2 ⟨.bl false, H, I, rfl, q⟩
  unfold isB at e
  cases y with
  | non =>
    cases rep_non.mp rb
    cases (show u = Value.none from ry)
    cases x with
    | non => cases rep_non.mp ra; cases (show v = Value.none from rx); cases e; exact wpAny_is_self rfl ⟨.bl true, H, I, rfl, q⟩
    | bl c => cases rep_bl.mp ra; cases (show v = Value.bool c from rx); cases e; exact other rfl (by intro z; cases z) rfl
    | int c => cases rep_int.mp ra; obtain ⟨t, rfl⟩ := rx; cases e; exact other rfl (by intro z; cases z) rfl
    | str c => cases rep_str.mp ra; obtain ⟨t, rfl⟩ := rx; cases e; exact other rfl (by intro z; cases z) rfl
    | tup c => obtain ⟨p, vs, rfl, _⟩ := rep_tupE ra; cases (show v = Value.ref p from rx); cases e; exact other rfl (by intro z; cases z) rfl
    | ref c => obtain ⟨p, rfl, _⟩ := rep_ref.mp ra; cases (show v = Value.ref p from rx); cases e; exact other rfl (by intro z; cases z) rfl
    | fl c => cases e
    | wt c => cases e
  | bl b =>
    cases rep_bl.mp rb
    cases (show u = Value.bool b from ry)
    cases x with
    | non => cases rep_non.mp ra; cases (show v = Value.none from rx); cases e; exact other rfl (by intro z; cases z) rfl
    | bl c =>
      cases rep_bl.mp ra
      cases (show v = Value.bool c from rx)
      have e : some (c == b) = some r := e
      cases e
      by_cases hc : c = b
      · subst hc
        rw [beq_self_eq_true] at q
        exact wpAny_is_self rfl ⟨.bl true, H, I, rfl, q⟩
      · exact other rfl (by intro z; cases z; exact hc rfl) (beq_eq_false_iff_ne.mpr hc)
    | int c => cases rep_int.mp ra; obtain ⟨t, rfl⟩ := rx; cases e; exact other rfl (by intro z; cases z) rfl
    | str c => cases rep_str.mp ra; obtain ⟨t, rfl⟩ := rx; cases e; exact other rfl (by intro z; cases z) rfl
    | tup c => obtain ⟨p, vs, rfl, _⟩ := rep_tupE ra; cases (show v = Value.ref p from rx); cases e; exact other rfl (by intro z; cases z) rfl
    | ref c => obtain ⟨p, rfl, _⟩ := rep_ref.mp ra; cases (show v = Value.ref p from rx); cases e; exact other rfl (by intro z; cases z) rfl
    | fl c => cases e
    | wt c => cases e
  | _ => cases x <;> cases e
theorem isNot_two {pins : List (Addr × Obj)} {s : Shared} {σ : L2.St} {v u : Value} {Q : VK} {x y : D} {a b : V} {r : Bool} (I : Inv X pins σ H s) (ra : RepV X.K θ H x a) (rb : RepV X.K θ H y b) (rx : RelV a v) (ry : RelV b u) (e : isB x y = some r) (q : Q (.bl (!r)) H) : wpAny (model X.prog X.w) X.A (compareOp .IsNot v u) (EP X pins σ Q) X.xe s := by
  have other : plainIs v u = true → v ≠ u → r = false → wpAny (model X.prog X.w) X.A (compareOp .IsNot v u) (EP X pins σ Q) X.xe s := fun h1 h2 h3 => by
    subst h3
    exact wpAny_isNot_other h1 h2 ⟨.bl true, H, I, rfl, q⟩
  unfold isB at e
  cases y with
  | non =>
    cases rep_non.mp rb
    cases (show u = Value.none from ry)
    cases x with
    | non => cases rep_non.mp ra; cases (show v = Value.none from rx); cases e; exact wpAny_isNot_self rfl ⟨.bl false, H, I, rfl, q⟩
    | bl c => cases rep_bl.mp ra; cases (show v = Value.bool c from rx); cases e; exact other rfl (by intro z; cases z) rfl
    | int c => cases rep_int.mp ra; obtain ⟨t, rfl⟩ := rx; cases e; exact other rfl (by intro z; cases z) rfl
    | str c => cases rep_str.mp ra; obtain ⟨t, rfl⟩ := rx; cases e; exact other rfl (by intro z; cases z) rfl
    | tup c => obtain ⟨p, vs, rfl, _⟩ := rep_tupE ra; cases (show v = Value.ref p from rx); cases e; exact other rfl (by intro z; cases z) rfl
    | ref c => obtain ⟨p, rfl, _⟩ := rep_ref.mp ra; cases (show v = Value.ref p from rx); cases e; exact other rfl (by intro z; cases z) rfl
    | fl c => cases e
    | wt c => cases e
  | bl b =>
    cases rep_bl.mp rb
    cases (show u = Value.bool b from ry)
    cases x with
    | non => cases rep_non.mp ra; cases (show v = Value.none from rx); cases e; exact other rfl (by intro z; cases z) rfl
    | bl c =>
      cases rep_bl.mp ra
      cases (show v = Value.bool c from rx)
      have e : some (c == b) = some r := e
      cases e
      by_cases hc : c = b
      · subst hc
        rw [beq_self_eq_true] at q
        exact wpAny_isNot_self rfl ⟨.bl false, H, I, rfl, q⟩
      · exact other rfl (by intro z; cases z; exact hc rfl) (beq_eq_false_iff_ne.mpr hc)
    | int c => cases rep_int.mp ra; obtain ⟨t, rfl⟩ := rx; cases e; exact other rfl (by intro z; cases z) rfl
    | str c => cases rep_str.mp ra; obtain ⟨t, rfl⟩ := rx; cases e; exact other rfl (by intro z; cases z) rfl
    | tup c => obtain ⟨p, vs, rfl, _⟩ := rep_tupE ra; cases (show v = Value.ref p from rx); cases e; exact other rfl (by intro z; cases z) rfl
    | ref c => obtain ⟨p, rfl, _⟩ := rep_ref.mp ra; cases (show v = Value.ref p from rx); cases e; exact other rfl (by intro z; cases z) rfl
    | fl c => cases e
    | wt c => cases e
  | _ => cases x <;> cases e
theorem op_isM : OpR X (compareOp .Is) (rM (gx X TZ) isM) := by
  intro pins s σ H x y v u Q I rx ry ⟨θ, st, d, e, hR, hd, he, r, s', hr, q⟩
  obtain ⟨b, hb, ez⟩ := Option.map_eq_some_iff.mp hr
  cases ez
  exact is_two I hd he rx ry hb (q θ _ H (List.prefix_refl _) (Keep.refl _) hR (rep_bl.mpr rfl))
theorem op_isNotM : OpR X (compareOp .IsNot) (rM (gx X TZ) isNotM) := by
  intro pins s σ H x y v u Q I rx ry ⟨θ, st, d, e, hR, hd, he, r, s', hr, q⟩
  obtain ⟨b, hb, ez⟩ := Option.map_eq_some_iff.mp hr
  cases ez
  exact isNot_two I hd he rx ry hb (q θ _ H (List.prefix_refl _) (Keep.refl _) hR (rep_bl.mpr rfl))
/-! ### ** -/
def powM := intM (fun i j => decide (0 ≤ j) && decide (j ≤ 1000000) && decide (i.natAbs < 18446744073709551616)) fun i j => .int (i ^ j.toNat)
theorem op_powM : OpR X (binaryOp .Pow) (rM (gx X TZ) powM) := op_intM op_pow (fun i j h => by
  simp only [Bool.and_eq_true, decide_eq_true_eq] at h
  exact ⟨h.1.1, h.1.2, h.2⟩) fun _ _ _ _ => rep_int.mpr rfl
/-! ### list(range(..)), len(set(t)) -/
def rgD (a b : Int) : List D := (List.range (b - a).toNat).map fun i => .int (a + (i : Nat))
def okRg (a b : Int) : Bool := in62 a && in62 b && decide ((b - a).toNat ≤ 16777216)
def listRgM (ds : List D) (st : Sto) : Option (D × Sto) := match ds with
  | [.int n] => if okRg 0 n = true then some (.ref st.length, st ++ [.lst (rgD 0 n)]) else none
  | [.int i, .int j] => if okRg i j = true then some (.ref st.length, st ++ [.lst (rgD i j)]) else none
  | _ => none
theorem rgD_rep {K : PySem.W.Frag} {a b : Int} : RepVs K θ H (rgD a b) (rgV a b) := by
  have h : rgD a b = ((List.range (b - a).toNat).map fun i => a + ((i : Nat) : Int)).map D.int := by
    unfold rgD
    rw [List.map_map]
    rfl
  have h2 : rgV a b = ((List.range (b - a).toNat).map fun i => a + ((i : Nat) : Int)).map V.int := by
    unfold L2.rgV
    rw [List.map_map]
    rfl
  rw [h, h2]
  exact RepVs.ints.mpr rfl
theorem okRg_ok {a b : Int} (h : okRg a b = true) : RgOk a b := by
  unfold okRg at h
  simp only [Bool.and_eq_true, decide_eq_true_eq] at h
  obtain ⟨h1, h2⟩ := in62_iff.mp h.1.1
  obtain ⟨h3, h4⟩ := in62_iff.mp h.1.2
  exact ⟨h1, h2, h3, h4, by simpa using h.2⟩
theorem re_listRg1 {a : Expr} {m : C} {p p2 pos pos2 : Pos} (hc : X.calm = true) (hg : Gl X "list") (hm : X.mg "list" = none) (hg2 : Gl X "range") (hm2 : X.mg "range" = none) (ha : RE X TZ F W a m)
    (na : starEach [Expr.Call (.Name "range" p2) [a] [] pos2] X.env = (false, eval (Expr.Call (.Name "range" p2) [a] [] pos2) X.env) :: starEach [] X.env := by rfl) (na2 : starEach [a] X.env = (false, eval a X.env) :: starEach [] X.env := by rfl) :
    RE X TZ F W (.Call (.Name "list" p) [.Call (.Name "range" p2) [a] [] pos2] [] pos) (cBi listRgM (aCons m aNil)) := by
  refine PE.imp (pe_listRg hc hg hm (prg_1 hg2 hm2 ha na2) na) fun σ H Q ⟨θ, st, ρ, hR, hE, q⟩ => ?_
  unfold cBi aCons aNil at q
  have q2 : Res (gx X TZ) (rV (gx X TZ)) W σ θ H ((m ρ st).bind fun x s => lift (listRgM [x] s)) Q := by
    revert q
    cases m ρ st <;> exact id
  refine ⟨θ, st, ρ, hR, hE, q2.seq fun θ1 d s1 v H1 p1 k1 R1 r1 h1 => ?_⟩
  obtain ⟨r, s', er, qq⟩ := res_lift h1
  unfold listRgM at er
  split at er
  · rename_i n e
    cases e
    split at er
    · rename_i ho
      cases er
      exact ⟨n, rep_int.mp r1, okRg_ok ho, fun t ht => fin_lst R1 rgD_rep ht qq⟩
    · cases er
  · rename_i e; cases e
  · cases er
/-- how many unlike items -/
def lenSetM (ds : List D) (st : Sto) : Option (D × Sto) := match ds with
  | [.tup xs] => match intsOf xs with
    | some ns => if ns.length ≤ 1000 then some (.int ns.eraseDups.length, st) else none
    | none => none
  | _ => none
end
theorem nodup_eraseDups : ∀ (n : Nat) (l : List Int), l.length ≤ n → l.eraseDups.Nodup
  | 0, [], _ => by simp
  | 0, _ :: _, h => by simp at h
  | n + 1, [], _ => by simp
  | n + 1, x :: xs, h => by
    rw [List.eraseDups_cons]
    refine List.nodup_cons.mpr ⟨?_, nodup_eraseDups n _ ?_⟩
    · intro z
      have := List.mem_eraseDups.mp z
      simp at this
    · have := List.length_filter_le (fun b => !b == x) xs
      simp only [List.length_cons] at h
      omega
section
variable {X : Cx} {TZ : Tabz} {F : Fx} {W : WX} {θ : List Addr} {H : Hp} {st : Sto}
theorem re_lenSet {a : Expr} {m : C} {p p2 q2 pos : Pos} (hg : Gl X "len") (hm : X.mg "len" = none) (hg2 : Gl X "set") (hm2 : X.mg "set" = none) (ha : RE X TZ F W a m) (hc : X.calm = true := by rfl)
    (na : starEach [a] X.env = (false, eval a X.env) :: starEach [] X.env := by rfl) : RE X TZ F W (.Call (.Name "len" p) [.Call (.Name "set" p2) [a] [] q2] [] pos) (cBi lenSetM (aCons m aNil)) := by
  refine PE.imp (pe_lenSetT hg hm hg2 hm2 ha hc na) fun σ H Q ⟨θ, st, ρ, hR, hE, q⟩ => ?_
  unfold cBi aCons aNil at q
  have q2 : Res (gx X TZ) (rV (gx X TZ)) W σ θ H ((m ρ st).bind fun x s => lift (lenSetM [x] s)) Q := by
    revert q
    cases m ρ st <;> exact id
  refine ⟨θ, st, ρ, hR, hE, q2.seq fun θ1 d s1 v H1 p1 k1 R1 r1 h1 => ?_⟩
  obtain ⟨r, s', er, qq⟩ := res_lift h1
  unfold lenSetM at er
  split at er
  · rename_i xs e
    cases e
    split at er
    · rename_i ns hns
      split at er
      · rename_i hl
        cases er
        obtain ⟨a, vs, rfl, s1, r2⟩ := rep_tupE r1
        rw [intsOf_some hns] at r2
        rw [RepVs.ints.mp r2] at s1
        exact ⟨a, ns, ns.eraseDups, rfl, s1, hl, nodup_eraseDups _ ns (Nat.le_refl _), fun k => List.mem_eraseDups, qq θ1 _ H1 (List.prefix_refl _) (Keep.refl _) R1 (rep_int.mpr rfl)⟩
      · cases er
    · cases er
  · cases er
end
end Rg

/-! short rules -/
namespace Rg
open PySem PySem.Spec PyProof.Rows L2 Fs
section
variable {X : Cx} {TZ : Tabz} {F : Fx} {W : WX} {θ : List Addr} {H : Hp} {st : Sto}
theorem rv (i : Nat) {x : Str} {pos : Pos} (hN : X.N[i]? = some x := by rfl) (hv : Vis X.env.scope x := by first | exact Or.inl rfl | exact Or.inr (Or.inl rfl) | exact Or.inr (Or.inr rfl)) (hd : (x == ("__debug__" : Str)) = false := by decide) (hcd : (x == ("__classdict__" : Str)) = false := by decide) : RE X TZ F W (.Name x pos) (cVar i) := re_var hN hv hd hcd
theorem re_notT {a : Expr} {ma : C} {pos : Pos} (ha : RE X TZ F W a ma) : RE X TZ F W (.UnaryOp .Not a pos) (cNotT ma) := by
  refine PE.imp (pe_notT ha) fun σ H Q ⟨θ, st, ρ, hR, hE, q⟩ => ⟨θ, st, ρ, hR, hE, q.seq fun θ1 d s1 v H1 p1 k1 R1 r1 h1 => ?_⟩
  cases e : truM d s1 with
  | none => rw [e] at h1; exact h1.elim
  | some z =>
    obtain ⟨b, s2⟩ := z
    rw [e] at h1
    obtain ⟨t, rfl⟩ := tru_rep R1 r1 e
    exact ⟨b, t, h1 θ1 _ H1 (List.prefix_refl _) (Keep.refl _) R1 (rep_bl.mpr rfl)⟩
def iaddM := intM (fun _ _ => true) fun i j => .int (i + j)
def isubM := intM (fun _ _ => true) fun i j => .int (i - j)
theorem ip_of {op : Operator} {f : Int → Int → Int} (h : PIp X op (ipI f)) : PIp X op (rM (gx X TZ) (intM (fun _ _ => true) fun i j => .int (f i j))) := by
  intro pins s σ H x y v u Q I rx ry ⟨θ, st, d, e, hR, hd, he, r, s', hr, q⟩
  unfold intM at hr
  split at hr
  · cases hr
    cases rep_int.mp hd
    cases rep_int.mp he
    exact h pins s σ H _ _ v u Q I rx ry ⟨_, _, rfl, rfl, q θ _ H (List.prefix_refl _) (Keep.refl _) hR (rep_int.mpr rfl)⟩
  · cases hr
theorem ip_addM : PIp X .Add (rM (gx X TZ) iaddM) := ip_of ip_add
theorem ip_subM : PIp X .Sub (rM (gx X TZ) isubM) := ip_of ip_sub
/-- a def of the text handed on as the last argument -/
def afDef (M : List Clo → Clo) : AF := fun _ st => .ok ([M []], []) st
theorem calls_def {x : Str} {k j n : Nat} {M : List Clo → Clo} {f : Addr} {s0 : Shared} {H0 : Hp} (hg : X.mg x = some (.ref f)) (Fm : FnM (gx X TZ) x k 0 (List.replicate n false) M) (hk : k ≤ j) (hn : ∀ ds st, ds.length ≠ n → M [] ds st = .no) (hK : ∀ s H, Later s0 H0 s H → PySem.W.FnAt f s.heap) : CallsM (gx X TZ) j s0 H0 θ f (M []) := by
  obtain ⟨f', hm, kp, fn, run⟩ := Fm.ex
  have e := hg.symm.trans hm
  cases e
  refine ⟨hK, fun A outer s H us vs ds θ1 st Q E hr e0 l p R1 rr ru q => ?_⟩
  have hl : ds.length = n := Classical.byContradiction fun z => by rw [hn ds st z] at q; exact q
  exact run A outer s H us vs Q E (hr.mono hk) e0 ru ⟨θ1, st, [], ds, R1, argsR_plain hl rr, q⟩
end
end Rg

/-! zip of two and of three lists and tuples in any mix -/
namespace Rg
open PySem PySem.Spec PyProof.Rows L2 Fs
def Sk (K : PySem.W.Frag) (H : Hp) : Bool → Addr → List V → Prop
  | true => SqL K H
  | false => SqT K H
def ItK : Bool → Heap → Addr → Addr → Nat → Prop
  | true => fun h it a i => h.IsListIter it a i
  | false => fun h it a i => h.IsTupleIter it a i
def SeK : Bool → Heap → Addr → Array Value → Prop
  | true => fun h a its => h.IsList a its
  | false => fun h a its => h.IsTuple a its
def ObK : Bool → Addr → Obj
  | true, a => { cls := .type "list_iterator", data := .fields #[.ref a, .int 0 0] }
  | false, a => { cls := .type "tuple_iterator", data := .fields #[.ref a, .int 0 0] }
theorem drawK {prog : Program} {w : World} {A : Around} (hh : A.handled = none) : ∀ (kd : Bool) (it a : Addr) (hne : a ≠ it) (items : Array Value), Draws prog w A it [it, a] items.size (fun i v => items[i]? = some v) (fun i h => ItK kd h it a i ∧ SeK kd h a items)
  | true, it, a, hne, items => Draws.list hh it a hne items
  | false, it, a, hne, items => Draws.tuple hh it a hne items
theorem begK : ∀ (kd : Bool) (a : Addr) (items : Array Value), Begins (.ref a) (ObK kd a) fun h => SeK kd h a items
  | true, a, items => begins_list a items
  | false, a, items => begins_tuple a items
theorem itK_new {h : Heap} {it a : Addr} : ∀ {kd : Bool}, h.get? it = some (ObK kd a) → ItK kd h it a 0
  | true, e => ⟨_, e, rfl, rfl⟩
  | false, e => ⟨_, e, rfl, rfl⟩
theorem itK_at {h h' : Heap} {it a : Addr} {i : Nat} : ∀ {kd : Bool}, ItK kd h it a i → (∀ o, h.get? it = some o → h'.get? it = some o) → ItK kd h' it a i
  | true, x, k => Heap.IsListIter.at x k
  | false, x, k => Heap.IsTupleIter.at x k
theorem itK_obj {h : Heap} {it a : Addr} {i : Nat} : ∀ {kd : Bool}, ItK kd h it a i → ∃ o, h.get? it = some o ∧ ∀ v, o.data ≠ .cell v
  | true, ⟨o, e, _, d⟩ => ⟨o, e, fun v q => by rw [d] at q; cases q⟩
  | false, ⟨o, e, _, d⟩ => ⟨o, e, fun v q => by rw [d] at q; cases q⟩
section
variable {X : Cx} {pins : List (Addr × Obj)} {σ : L2.St} {H : Hp} {s : Shared}
theorem sk_at (I : Inv X pins σ H s) : ∀ {kd : Bool} {a : Addr} {xs : List V}, Sk X.K H kd a xs → ∃ its : List Value, Vals xs its ∧ SeK kd s.heap a its.toArray ∧ a < s.heap.objs.size
  | true, a, xs, h => by
    obtain ⟨its, rv, p, _⟩ := I.list h
    exact ⟨its, rv, p.isList, p.lt⟩
  | false, a, xs, h => by
    obtain ⟨its, rv, p, _⟩ := I.tuple h
    obtain ⟨o, ho, _⟩ := id p
    exact ⟨its, rv, p, Heap.lt_size ho⟩
theorem sk_inj (I : Inv X pins σ H s) : ∀ {kd : Bool} {a : Addr} {xs ys : List V}, Sk X.K H kd a xs → Sk X.K H kd a ys → xs = ys
  | true, _, _, _, h, h2 => I.list_inj h h2
  | false, _, _, _, h, h2 => I.tuple_inj h h2
end
/-- the sequences at a and b as they stand at each turn -/
def ItzK (K : PySem.W.Frag) (k1 k2 : Bool) (a b : Addr) : It :=
  ⟨fun i H => ∃ (xs ys : List V) (x y : V), Sk K H k1 a xs ∧ Sk K H k2 b ys ∧ xs[i]? = some x ∧ ys[i]? = some y,
    fun i H v H' => ∃ T x y, v = .ref T ∧ H T = none ∧ H' = upd H T (.tup [x, y]) ∧ (∀ xs, Sk K H k1 a xs → xs[i]? = some x) ∧ ∀ ys, Sk K H k2 b ys → ys[i]? = some y,
    fun i H => ∃ xs ys : List V, Sk K H k1 a xs ∧ Sk K H k2 b ys ∧ i = min xs.length ys.length⟩
theorem turn_zipK {P : Program} {w : World} {K : PySem.W.Frag} {elts : List Expr} {kk : Nat} {tpos : Pos} {k1 k2 : Bool} {a b z TI TO i1 i2 : Addr} (Dz : ZipSep2 z TI TO i1 i2 [i1, a] [i2, b]) (n1 : a ≠ i1) (n2 : b ≠ i2) :
    Turn P w K (.Tuple elts kk tpos) (ItzK K k1 k2 a b) [z, TI, TO, i1, i2] z (fun i h => IsZip h z TI TO .none ∧ IsTupOf2 h TI (.ref i1) (.ref i2) ∧ (∃ x y, IsTupOf2 h TO x y) ∧ ItK k1 h i1 a i ∧ ItK k2 h i2 b i) where
  mem := by simp
  obj := fun i h st c hc => by
    obtain ⟨hz, hTI, ⟨x, y, hTO⟩, h1, h2⟩ := st
    have e' : c = z ∨ c = TI ∨ c = TO ∨ c = i1 ∨ c = i2 := by simpa using hc
    rcases e' with q | q | q | q | q
    · rw [q]; exact ⟨_, hz, fun v q => nomatch q⟩
    · rw [q]; exact ⟨_, hTI, fun v q => nomatch q⟩
    · rw [q]; exact ⟨_, hTO, fun v q => nomatch q⟩
    · rw [q]; exact itK_obj h1
    · rw [q]; exact itK_obj h2
  keep := fun i h h' st k => by
    obtain ⟨hz, hTI, ⟨x, y, hTO⟩, h1, h2⟩ := st
    exact ⟨k z (by simp) _ hz, k TI (by simp) _ hTI, ⟨x, y, k TO (by simp) _ hTO⟩, itK_at h1 fun o q => k i1 (by simp) o q, itK_at h2 fun o q => k i2 (by simp) o q⟩
  item := by
    intro X hP hw hK hc i pins s σ H E I hf st hg
    subst hP hw hK
    obtain ⟨hz, hTI, hTO, h1, h2⟩ := st
    obtain ⟨xs, ys, x, y, hqx, hqy, hx, hy⟩ := hg
    obtain ⟨its, rv, p, _⟩ := sk_at I hqx
    obtain ⟨its2, rv2, p2, _⟩ := sk_at I hqy
    obtain ⟨u, hu, ru⟩ := rv.get hx
    obtain ⟨u2, hu2, ru2⟩ := rv2.get hy
    have l1 := (List.getElem?_eq_some_iff.mp hu).1
    have l2 := (List.getElem?_eq_some_iff.mp hu2).1
    refine (GoesN.zip2 (elts := elts) (x1 := kk) (pos := tpos) Dz (drawK (prog := X.prog) (w := X.w) (A := X.A.in1) (I.ok.hd hc) k1 i1 a n1 its.toArray) (drawK (prog := X.prog) (w := X.w) (A := X.A.in1) (I.ok.hd hc) k2 i2 b n2 its2.toArray)).goes i s _ E (by simp only [List.size_toArray]; omega) ⟨hz, hTI, hTO, ⟨h1, p⟩, h2, p2⟩ fun v h' tk Y st2 hk htk => ?_
    obtain ⟨T, v1, v2, rfl, hT, e1, e2, hTT⟩ := Y
    have e1 : its.toArray[i]? = some v1 := e1
    have e2 : its2.toArray[i]? = some v2 := e2
    rw [List.getElem?_toArray, hu] at e1
    rw [List.getElem?_toArray, hu2] at e2
    cases e1
    cases e2
    obtain ⟨hz2, hTI2, hTO2, ⟨h12, _⟩, h22, _⟩ := st2
    have new : ObjOk X.prog X.w (upd H T (.tup [x, y])) h' T (.tup [x, y]) := ⟨by show 2 ≤ sizeLine; decide, [u, u2], .cons ru (.cons ru2 .nil), hTT⟩
    have hfw : ∀ c ∈ [z, TO, i1, i2], FpOk X pins H c := fun c hc => hf c (by simp only [List.mem_cons, List.not_mem_nil, or_false] at hc ⊢; rcases hc with h | h | h | h <;> simp [h])
    refine ⟨.ref T, _, I.turnedNew (ch := [z, TO, i1, i2]) hk hfw hT new, rfl, ⟨T, x, y, rfl, I.hok.fresh hT, rfl, fun xs' h => by rw [sk_inj I h hqx]; exact hx, fun ys' h => by rw [sk_inj I h hqy]; exact hy⟩, ⟨hz2, hTI2, hTO2, h12, h22⟩, fun c hc => ?_⟩
    have hcs : c < s.heap.objs.size := by
      have e' : c = z ∨ c = TI ∨ c = TO ∨ c = i1 ∨ c = i2 := by simpa using hc
      obtain ⟨xo, yo, hTO⟩ := hTO
      rcases e' with q | q | q | q | q
      · rw [q]; exact Heap.lt_size hz
      · rw [q]; exact Heap.lt_size hTI
      · rw [q]; exact Heap.lt_size hTO
      · rw [q]; obtain ⟨o, e, _⟩ := itK_obj h1; exact Heap.lt_size e
      · rw [q]; obtain ⟨o, e, _⟩ := itK_obj h2; exact Heap.lt_size e
    rw [upd_ne (Nat.ne_of_lt (Nat.lt_of_lt_of_le hcs hT))]
    exact (hf c hc).1
  done := by
    intro X hP hw hK hc i pins s σ H E I hf st hg
    subst hP hw hK
    obtain ⟨hz, hTI, hTO, h1, h2⟩ := st
    obtain ⟨xs, ys, hqx, hqy, hi⟩ := hg
    obtain ⟨its, rv, p, _⟩ := sk_at I hqx
    obtain ⟨its2, rv2, p2, _⟩ := sk_at I hqy
    have en : i = min its.toArray.size its2.toArray.size := by
      rw [List.size_toArray, List.size_toArray, ← rv.length, ← rv2.length]
      exact hi
    subst en
    have hfw : ∀ c ∈ [z, TO, i1, i2], FpOk X pins H c := fun c hc => hf c (by simp only [List.mem_cons, List.not_mem_nil, or_false] at hc ⊢; rcases hc with h | h | h | h <;> simp [h])
    exact (GoesN.zip2 (elts := elts) (x1 := kk) (pos := tpos) Dz (drawK (prog := X.prog) (w := X.w) (A := X.A.in1) (I.ok.hd hc) k1 i1 a n1 its.toArray) (drawK (prog := X.prog) (w := X.w) (A := X.A.in1) (I.ok.hd hc) k2 i2 b n2 its2.toArray)).stops s _ E ⟨hz, hTI, hTO, ⟨h1, p⟩, h2, p2⟩ fun h' tk hk htk => I.turnedL (ch := [z, TO, i1, i2]) hk hfw
  self := fun A i s Q E st h => wpAny_pyIter_zip st.1 h
def iZipK (K : PySem.W.Frag) (ta : TA) : TI := fun σ H R => ta σ H fun vs H1 => ∃ (k1 k2 : Bool) (a b : Addr) (xs ys : List V), vs = [.ref a, .ref b] ∧ Sk K H1 k1 a xs ∧ Sk K H1 k2 b ys ∧ R (ItzK K k1 k2 a b) H1
theorem off_lt {N c : Nat} (h : c < N) (j : Nat) : c ≠ N + j := by omega
theorem pi_zipK {X : Cx} {e e2 : Expr} {ta : TA} {p pos tpos : Pos} {elts : List Expr} {kk : Nat} (hg : Gl X "zip") (hm : X.mg "zip" = none) (ha : PA X [e, e2] ta)
    (hs : starEach [e, e2] X.env = (false, eval e X.env) :: starEach [e2] X.env := by rfl) (hpl : (backTo pos (starEach [e2] X.env)).any (·.1) = false := by rfl) :
    PI X (.Tuple elts kk tpos) (.Call (.Name "zip" p) [e, e2] [] pos) (iZipK X.K ta) := by
  refine ⟨fun pins s σ H R I h => ?_⟩
  refine Call_ (ld_blt I hg hm PyProof.Rows.boot_zip (PyProof.Rows.callWith_type1 (thn (ha.run pos pins s σ H _ I h) fun us s1 ⟨vs, H1, I1, r1, q1⟩ => ?_) hs hpl))
  obtain ⟨k1, k2, a, b, xs, ys, ex, hqx, hqy, q⟩ := q1
  subst ex
  cases r1 with
  | cons r rr =>
    cases rr with
    | cons r' rr =>
      cases rr
      cases r
      cases r'
      obtain ⟨its, rv, p1, la⟩ := sk_at I1 hqx
      obtain ⟨its2, rv2, p2, lb⟩ := sk_at I1 hqy
      refine zip_begins2 (begK k1 a its.toArray) (begK k2 b its2.toArray) p1 p2 fun h' hz hTI hTO h1 h2 hsz hk => wpAny_pyIter_zip hz ?_
      have I2 : Inv X pins σ H1 { s1 with heap := h' } := I1.kept (t' := s1.toks) hk
      refine ⟨s1.heap.objs.size + 4, [s1.heap.objs.size + 4, s1.heap.objs.size + 2, s1.heap.objs.size + 3, s1.heap.objs.size, s1.heap.objs.size + 1], _, _, H1, rfl, I2, turn_zipK (zip_sep2 (N := s1.heap.objs.size) (fp1 := [a]) (fp2 := [b]) (by simpa using la) (by simpa using lb)) (Nat.ne_of_lt la) (Nat.ne_of_lt (Nat.lt_succ_of_lt lb)), ⟨hz, hTI, ⟨_, _, hTO⟩, itK_new h1, itK_new h2⟩, fun c hcm => ?_, q⟩
      have e' : c = s1.heap.objs.size + 4 ∨ c = s1.heap.objs.size + 2 ∨ c = s1.heap.objs.size + 3 ∨ c = s1.heap.objs.size ∨ c = s1.heap.objs.size + 1 := by simpa using hcm
      have hle : s1.heap.objs.size ≤ c := by
        rcases e' with z | z | z | z | z <;> rw [z] <;> first | exact Nat.le_add_right _ _ | exact Nat.le_refl _
      exact I1.fpOk hle (I1.hok.fresh hle)

/-- of three -/
def ItzK3 (K : PySem.W.Frag) (k1 k2 k3 : Bool) (a b c : Addr) : It :=
  ⟨fun i H => ∃ (xs ys zs : List V) (x y z : V), Sk K H k1 a xs ∧ Sk K H k2 b ys ∧ Sk K H k3 c zs ∧ xs[i]? = some x ∧ ys[i]? = some y ∧ zs[i]? = some z,
    fun i H v H' => ∃ T x y z, v = .ref T ∧ H T = none ∧ H' = upd H T (.tup [x, y, z]) ∧ (∀ xs, Sk K H k1 a xs → xs[i]? = some x) ∧ (∀ ys, Sk K H k2 b ys → ys[i]? = some y) ∧ ∀ zs, Sk K H k3 c zs → zs[i]? = some z,
    fun i H => ∃ xs ys zs : List V, Sk K H k1 a xs ∧ Sk K H k2 b ys ∧ Sk K H k3 c zs ∧ i = min (min xs.length ys.length) zs.length⟩
theorem turn_zipK3 {P : Program} {w : World} {K : PySem.W.Frag} {elts : List Expr} {kk : Nat} {tpos : Pos} {k1 k2 k3 : Bool} {a b d z TI TO i1 i2 i3 : Addr} (Dz : ZipSep3 z TI TO i1 i2 i3 [i1, a] [i2, b] [i3, d]) (n1 : a ≠ i1) (n2 : b ≠ i2) (n3 : d ≠ i3) :
    Turn P w K (.Tuple elts kk tpos) (ItzK3 K k1 k2 k3 a b d) [z, TI, TO, i1, i2, i3] z (fun i h => IsZip h z TI TO .none ∧ IsTupOf3 h TI (.ref i1) (.ref i2) (.ref i3) ∧ (∃ x y u, IsTupOf3 h TO x y u) ∧ ItK k1 h i1 a i ∧ ItK k2 h i2 b i ∧ ItK k3 h i3 d i) where
  mem := by simp
  obj := fun i h st c hc => by
    obtain ⟨hz, hTI, ⟨x, y, u, hTO⟩, h1, h2, h3⟩ := st
    have e' : c = z ∨ c = TI ∨ c = TO ∨ c = i1 ∨ c = i2 ∨ c = i3 := by simpa using hc
    rcases e' with q | q | q | q | q | q
    · rw [q]; exact ⟨_, hz, fun v q => nomatch q⟩
    · rw [q]; exact ⟨_, hTI, fun v q => nomatch q⟩
    · rw [q]; exact ⟨_, hTO, fun v q => nomatch q⟩
    · rw [q]; exact itK_obj h1
    · rw [q]; exact itK_obj h2
    · rw [q]; exact itK_obj h3
  keep := fun i h h' st k => by
    obtain ⟨hz, hTI, ⟨x, y, u, hTO⟩, h1, h2, h3⟩ := st
    exact ⟨k z (by simp) _ hz, k TI (by simp) _ hTI, ⟨x, y, u, k TO (by simp) _ hTO⟩, itK_at h1 fun o q => k i1 (by simp) o q, itK_at h2 fun o q => k i2 (by simp) o q, itK_at h3 fun o q => k i3 (by simp) o q⟩
  item := by
    intro X hP hw hK hc i pins s σ H E I hf st hg
    subst hP hw hK
    obtain ⟨hz, hTI, hTO, h1, h2, h3⟩ := st
    obtain ⟨xs, ys, zs, x, y, y3, hqx, hqy, hqz, hx, hy, hy3⟩ := hg
    obtain ⟨its, rv, p, _⟩ := sk_at I hqx
    obtain ⟨its2, rv2, p2, _⟩ := sk_at I hqy
    obtain ⟨its3, rv3, p3, _⟩ := sk_at I hqz
    obtain ⟨u, hu, ru⟩ := rv.get hx
    obtain ⟨u2, hu2, ru2⟩ := rv2.get hy
    obtain ⟨u3, hu3, ru3⟩ := rv3.get hy3
    have l1 := (List.getElem?_eq_some_iff.mp hu).1
    have l2 := (List.getElem?_eq_some_iff.mp hu2).1
    have l3 := (List.getElem?_eq_some_iff.mp hu3).1
    refine (GoesN.zip3 (elts := elts) (x1 := kk) (pos := tpos) Dz (drawK (prog := X.prog) (w := X.w) (A := X.A.in1) (I.ok.hd hc) k1 i1 a n1 its.toArray) (drawK (prog := X.prog) (w := X.w) (A := X.A.in1) (I.ok.hd hc) k2 i2 b n2 its2.toArray) (drawK (prog := X.prog) (w := X.w) (A := X.A.in1) (I.ok.hd hc) k3 i3 d n3 its3.toArray)).goes i s _ E (by simp only [List.size_toArray]; omega) ⟨hz, hTI, hTO, ⟨h1, p⟩, ⟨h2, p2⟩, h3, p3⟩ fun v h' tk Y st2 hk htk => ?_
    obtain ⟨T, v1, v2, v3, rfl, hT, e1, e2, e3, hTT⟩ := Y
    have e1 : its.toArray[i]? = some v1 := e1
    have e2 : its2.toArray[i]? = some v2 := e2
    have e3 : its3.toArray[i]? = some v3 := e3
    rw [List.getElem?_toArray, hu] at e1
    rw [List.getElem?_toArray, hu2] at e2
    rw [List.getElem?_toArray, hu3] at e3
    cases e1
    cases e2
    cases e3
    obtain ⟨hz2, hTI2, hTO2, ⟨h12, _⟩, ⟨h22, _⟩, h32, _⟩ := st2
    have new : ObjOk X.prog X.w (upd H T (.tup [x, y, y3])) h' T (.tup [x, y, y3]) := ⟨by show 3 ≤ sizeLine; decide, [u, u2, u3], .cons ru (.cons ru2 (.cons ru3 .nil)), hTT⟩
    have hfw : ∀ c ∈ [z, TO, i1, i2, i3], FpOk X pins H c := fun c hc => hf c (by simp only [List.mem_cons, List.not_mem_nil, or_false] at hc ⊢; rcases hc with h | h | h | h | h <;> simp [h])
    refine ⟨.ref T, _, I.turnedNew (ch := [z, TO, i1, i2, i3]) hk hfw hT new, rfl, ⟨T, x, y, y3, rfl, I.hok.fresh hT, rfl, fun xs' h => by rw [sk_inj I h hqx]; exact hx, fun ys' h => by rw [sk_inj I h hqy]; exact hy, fun ys' h => by rw [sk_inj I h hqz]; exact hy3⟩, ⟨hz2, hTI2, hTO2, h12, h22, h32⟩, fun c hc => ?_⟩
    have hcs : c < s.heap.objs.size := by
      have e' : c = z ∨ c = TI ∨ c = TO ∨ c = i1 ∨ c = i2 ∨ c = i3 := by simpa using hc
      obtain ⟨xo, yo, zo, hTO⟩ := hTO
      rcases e' with q | q | q | q | q | q
      · rw [q]; exact Heap.lt_size hz
      · rw [q]; exact Heap.lt_size hTI
      · rw [q]; exact Heap.lt_size hTO
      · rw [q]; obtain ⟨o, e, _⟩ := itK_obj h1; exact Heap.lt_size e
      · rw [q]; obtain ⟨o, e, _⟩ := itK_obj h2; exact Heap.lt_size e
      · rw [q]; obtain ⟨o, e, _⟩ := itK_obj h3; exact Heap.lt_size e
    rw [upd_ne (Nat.ne_of_lt (Nat.lt_of_lt_of_le hcs hT))]
    exact (hf c hc).1
  done := by
    intro X hP hw hK hc i pins s σ H E I hf st hg
    subst hP hw hK
    obtain ⟨hz, hTI, hTO, h1, h2, h3⟩ := st
    obtain ⟨xs, ys, zs, hqx, hqy, hqz, hi⟩ := hg
    obtain ⟨its, rv, p, _⟩ := sk_at I hqx
    obtain ⟨its2, rv2, p2, _⟩ := sk_at I hqy
    obtain ⟨its3, rv3, p3, _⟩ := sk_at I hqz
    have en : i = min (min its.toArray.size its2.toArray.size) its3.toArray.size := by
      rw [List.size_toArray, List.size_toArray, List.size_toArray, ← rv.length, ← rv2.length, ← rv3.length]
      exact hi
    subst en
    have hfw : ∀ c ∈ [z, TO, i1, i2, i3], FpOk X pins H c := fun c hc => hf c (by simp only [List.mem_cons, List.not_mem_nil, or_false] at hc ⊢; rcases hc with h | h | h | h | h <;> simp [h])
    exact (GoesN.zip3 (elts := elts) (x1 := kk) (pos := tpos) Dz (drawK (prog := X.prog) (w := X.w) (A := X.A.in1) (I.ok.hd hc) k1 i1 a n1 its.toArray) (drawK (prog := X.prog) (w := X.w) (A := X.A.in1) (I.ok.hd hc) k2 i2 b n2 its2.toArray) (drawK (prog := X.prog) (w := X.w) (A := X.A.in1) (I.ok.hd hc) k3 i3 d n3 its3.toArray)).stops s _ E ⟨hz, hTI, hTO, ⟨h1, p⟩, ⟨h2, p2⟩, h3, p3⟩ fun h' tk hk htk => I.turnedL (ch := [z, TO, i1, i2, i3]) hk hfw
  self := fun A i s Q E st h => wpAny_pyIter_zip st.1 h
def iZipK3 (K : PySem.W.Frag) (ta : TA) : TI := fun σ H R => ta σ H fun vs H1 => ∃ (k1 k2 k3 : Bool) (a b c : Addr) (xs ys zs : List V), vs = [.ref a, .ref b, .ref c] ∧ Sk K H1 k1 a xs ∧ Sk K H1 k2 b ys ∧ Sk K H1 k3 c zs ∧ R (ItzK3 K k1 k2 k3 a b c) H1
theorem pi_zipK3 {X : Cx} {e e2 e3 : Expr} {ta : TA} {p pos tpos : Pos} {elts : List Expr} {kk : Nat} (hg : Gl X "zip") (hm : X.mg "zip" = none) (ha : PA X [e, e2, e3] ta)
    (hs : starEach [e, e2, e3] X.env = (false, eval e X.env) :: starEach [e2, e3] X.env := by rfl) (hpl : (backTo pos (starEach [e2, e3] X.env)).any (·.1) = false := by rfl) :
    PI X (.Tuple elts kk tpos) (.Call (.Name "zip" p) [e, e2, e3] [] pos) (iZipK3 X.K ta) := by
  refine ⟨fun pins s σ H R I h => ?_⟩
  refine Call_ (ld_blt I hg hm PyProof.Rows.boot_zip (PyProof.Rows.callWith_type1 (thn (ha.run pos pins s σ H _ I h) fun us s1 ⟨vs, H1, I1, r1, q1⟩ => ?_) hs hpl))
  obtain ⟨k1, k2, k3, a, b, d, xs, ys, zs, ex, hqx, hqy, hqz, q⟩ := q1
  subst ex
  cases r1 with
  | cons r rr =>
    cases rr with
    | cons r' rr =>
      cases rr with
      | cons r'' rr =>
        cases rr
        cases r
        cases r'
        cases r''
        obtain ⟨its, rv, p1, la⟩ := sk_at I1 hqx
        obtain ⟨its2, rv2, p2, lb⟩ := sk_at I1 hqy
        obtain ⟨its3, rv3, p3, ld⟩ := sk_at I1 hqz
        refine zip_begins3 (begK k1 a its.toArray) (begK k2 b its2.toArray) (begK k3 d its3.toArray) p1 p2 p3 fun h' hz hTI hTO h1 h2 h3 hsz hk => wpAny_pyIter_zip hz ?_
        have I2 : Inv X pins σ H1 { s1 with heap := h' } := I1.kept (t' := s1.toks) hk
        refine ⟨s1.heap.objs.size + 5, [s1.heap.objs.size + 5, s1.heap.objs.size + 3, s1.heap.objs.size + 4, s1.heap.objs.size, s1.heap.objs.size + 1, s1.heap.objs.size + 2], _, _, H1, rfl, I2, turn_zipK3 (zip_sep3 (N := s1.heap.objs.size) (fp1 := [a]) (fp2 := [b]) (fp3 := [d]) (by simpa using la) (by simpa using lb) (by simpa using ld)) (Nat.ne_of_lt la) (Nat.ne_of_lt (Nat.lt_succ_of_lt lb)) (Nat.ne_of_lt (Nat.lt_succ_of_lt (Nat.lt_succ_of_lt ld))), ⟨hz, hTI, ⟨_, _, _, hTO⟩, itK_new h1, itK_new h2, itK_new h3⟩, fun c hcm => ?_, q⟩
        have e' : c = s1.heap.objs.size + 5 ∨ c = s1.heap.objs.size + 3 ∨ c = s1.heap.objs.size + 4 ∨ c = s1.heap.objs.size ∨ c = s1.heap.objs.size + 1 ∨ c = s1.heap.objs.size + 2 := by simpa using hcm
        have hle : s1.heap.objs.size ≤ c := by
          rcases e' with z | z | z | z | z | z <;> rw [z] <;> first | exact Nat.le_add_right _ _ | exact Nat.le_refl _
        exact I1.fpOk hle (I1.hok.fresh hle)
/-! ### over the plain store -/
def seqW (d : D) (st : Sto) : Option (List D × List (Nat × List D)) := match d with
  | .tup xs => some (xs, [])
  | .wt xs => some (xs, [])
  | .fl xs => some (xs, [])
  | .ref n => match st[n]? with
    | some (.lst xs) => some (xs, [(n, xs)])
    | _ => none
  | _ => none
def zipKM (ds : List D) (st : Sto) : Option (Wk × Sto) := match ds with
  | [d, e] => match seqW d st, seqW e st with
    | some (xs, l1), some (ys, l2) => some (⟨zipL xs ys, l1 ++ l2⟩, st)
    | _, _ => none
  | _ => none
def zip3L : List D → List D → List D → List D
  | x :: xs, y :: ys, z :: zs => .wt [x, y, z] :: zip3L xs ys zs
  | _, _, _ => []
def zip3M (ds : List D) (st : Sto) : Option (Wk × Sto) := match ds with
  | [d, e, f] => match seqW d st, seqW e st, seqW f st with
    | some (xs, l1), some (ys, l2), some (zs, l3) => some (⟨zip3L xs ys zs, l1 ++ l2 ++ l3⟩, st)
    | _, _, _ => none
  | _ => none
theorem zip3L_get : ∀ {xs ys zs : List D} {i : Nat} {d : D}, (zip3L xs ys zs)[i]? = some d → ∃ x y z, xs[i]? = some x ∧ ys[i]? = some y ∧ zs[i]? = some z ∧ d = .wt [x, y, z]
  | [], _, _, i, d, h => by unfold zip3L at h; simp at h
  | _ :: _, [], _, i, d, h => by unfold zip3L at h; simp at h
  | _ :: _, _ :: _, [], i, d, h => by unfold zip3L at h; simp at h
  | x :: xs, y :: ys, z :: zs, 0, d, h => by
    unfold zip3L at h
    simp at h
    exact ⟨x, y, z, rfl, rfl, rfl, h.symm⟩
  | x :: xs, y :: ys, z :: zs, i + 1, d, h => by
    unfold zip3L at h
    obtain ⟨a, b, c, e1, e2, e3, q⟩ := zip3L_get (xs := xs) (ys := ys) (zs := zs) (i := i) (d := d) (by simpa using h)
    exact ⟨a, b, c, by simpa using e1, by simpa using e2, by simpa using e3, q⟩
theorem zip3L_len : ∀ {xs ys zs : List D}, (zip3L xs ys zs).length = min (min xs.length ys.length) zs.length
  | [], ys, zs => by unfold zip3L; simp
  | x :: xs, [], zs => by unfold zip3L; simp
  | x :: xs, y :: ys, [] => by unfold zip3L; simp
  | x :: xs, y :: ys, z :: zs => by
    unfold zip3L
    rw [List.length_cons, List.length_cons, List.length_cons, List.length_cons, zip3L_len]
    omega
section
variable {X : Cx} {TZ : Tabz} {F : Fx} {W : WX} {θ : List Addr} {H : Hp} {st : Sto}
theorem seqW_rep {d : D} {v : V} {xs : List D} {lk : List (Nat × List D)} (hR : Rel (gx X TZ) θ st H) (h : RepV X.K θ H d v) (e : seqW d st = some (xs, lk)) : ∃ (kd : Bool) (a : Addr), v = .ref a ∧ (∃ vs, Sk X.K H kd a vs) ∧
    ∀ (θ' : List Addr) (st' : Sto) (H' : Hp), θ <+: θ' → Keep H H' → Rel (gx X TZ) θ' st' H' → okW lk st' → ∃ vs, Sk X.K H' kd a vs ∧ RepVs X.K θ' H' xs vs := by
  unfold seqW at e
  split at e
  · cases e
    obtain ⟨a, vs, rfl, s1, r1⟩ := rep_tupE h
    exact ⟨false, a, rfl, ⟨vs, s1⟩, fun θ' st' H' p k R' ok => ⟨vs, k.sqT s1, r1.step p k⟩⟩
  · cases e
    obtain ⟨a, vs, rfl, s1, r1⟩ := rep_wt.mp h
    exact ⟨false, a, rfl, ⟨vs, SqT.of s1⟩, fun θ' st' H' p k R' ok => ⟨vs, SqT.of (k.tup _ _ s1), r1.step p k⟩⟩
  · cases e
    obtain ⟨a, vs, rfl, s1, r1⟩ := rep_fl.mp h
    exact ⟨true, a, rfl, ⟨vs, s1.sq⟩, fun θ' st' H' p k R' ok => ⟨vs, (k.sqF s1).sq, r1.step p k⟩⟩
  · split at e
    · rename_i hx
      cases e
      obtain ⟨a, vs, rfl, ea, e1, r1⟩ := hR.lstOf hx h
      refine ⟨true, a, rfl, ⟨vs, SqL.of e1⟩, fun θ' st' H' p k R' ok => ?_⟩
      obtain ⟨ws, e2, r2⟩ := R'.lst_at (ok (_, xs) (List.mem_cons_self ..)) (pre_get p ea)
      exact ⟨ws, SqL.of e2, r2⟩
    · cases e
  · cases e
theorem okW_app {l1 l2 : List (Nat × List D)} {s : Sto} (h : okW (l1 ++ l2) s) : okW l1 s ∧ okW l2 s := ⟨fun p hp => h p (List.mem_append_left _ hp), fun p hp => h p (List.mem_append_right _ hp)⟩
theorem ri_zipK {e e2 : Expr} {r : AL} {p pos tpos : Pos} {elts : List Expr} {kk : Nat} (hg : Gl X "zip") (hm : X.mg "zip" = none) (ha : RA X TZ F W [e, e2] r)
    (hs : starEach [e, e2] X.env = (false, eval e X.env) :: starEach [e2] X.env := by rfl) (hpl : (backTo pos (starEach [e2] X.env)).any (·.1) = false := by rfl) : RI X TZ F W (.Tuple elts kk tpos) (.Call (.Name "zip" p) [e, e2] [] pos) (wArg zipKM r) := by
  refine ⟨_, pi_zipK hg hm ha hs hpl, fun σ H θ st ρ R hR hE q => ⟨θ, st, ρ, hR, hE, q.seq fun θ1 ds s1 vs H1 p1 k1 R1 r1 h1 => ?_⟩⟩
  obtain ⟨wk, s2, ew, q2⟩ := res_liftI h1
  unfold zipKM at ew
  split at ew
  · split at ew
    · rename_i xs l1 ys l2 hx hy
      cases ew
      obtain ⟨v, w, rfl, rv, rw2⟩ := rep_list2 r1
      obtain ⟨kd1, a, rfl, ⟨vs, z1⟩, f1⟩ := seqW_rep R1 rv hx
      obtain ⟨kd2, b, rfl, ⟨ws, z2⟩, f2⟩ := seqW_rep R1 rw2 hy
      refine ⟨kd1, kd2, a, b, vs, ws, rfl, z1, z2, q2 θ1 _ H1 (List.prefix_refl _) (Keep.refl _) R1 fun θ2 s2 H2 p2 k2 R2 ok => ?_⟩
      obtain ⟨o1, o2⟩ := okW_app ok
      obtain ⟨vs, e1, r1⟩ := f1 θ2 s2 H2 p2 k2 R2 o1
      obtain ⟨ws, e2, r2⟩ := f2 θ2 s2 H2 p2 k2 R2 o2
      have hl : xs.length = vs.length := r1.length
      have hl2 : ys.length = ws.length := r2.length
      refine ⟨fun i hi => ⟨vs, ws, e1, e2, ?_⟩, fun i d hd => ?_⟩
      · have hi : i = (zipL xs ys).length := hi
        rw [zipL_len] at hi
        omega
      · obtain ⟨d1, d2, h1, h2, rfl⟩ := zipL_get hd
        obtain ⟨v, hv, rv⟩ := r1.get h1
        obtain ⟨w, hw, rw2⟩ := r2.get h2
        refine ⟨⟨vs, ws, v, w, e1, e2, hv, hw⟩, fun x H' y => ?_⟩
        obtain ⟨T, x', y', rfl, hT, rfl, y1, y2⟩ := y
        have g1 := y1 vs e1
        have g2 := y2 ws e2
        rw [hv] at g1
        rw [hw] at g2
        cases g1
        cases g2
        exact pair_new R2 hT rv rw2
    · cases ew
  · cases ew
theorem rep_list3 {K : PySem.W.Frag} {θ : List Addr} {H : Hp} {d e f : D} {vs : List V} (h : RepVs K θ H [d, e, f] vs) : ∃ v w u, vs = [v, w, u] ∧ RepV K θ H d v ∧ RepV K θ H e w ∧ RepV K θ H f u := by
  unfold RepVs at h
  obtain ⟨v, r, rfl, h1, h2⟩ := h
  obtain ⟨w, u, rfl, h3, h4⟩ := rep_list2 h2
  exact ⟨v, w, u, rfl, h1, h3, h4⟩
theorem triple_new {G : Gx} {θ2 : List Addr} {s2 : Sto} {H2 : Hp} {T : Addr} {x y z : V} {d e f : D} (R2 : Rel G θ2 s2 H2) (hT : H2 T = none) (r1 : RepV G.K θ2 H2 d x) (r2 : RepV G.K θ2 H2 e y) (r3 : RepV G.K θ2 H2 f z) :
    Keep H2 (upd H2 T (.tup [x, y, z])) ∧ Rel G θ2 s2 (upd H2 T (.tup [x, y, z])) ∧ RepV G.K θ2 (upd H2 T (.tup [x, y, z])) (.wt [d, e, f]) (.ref T) :=
  have k := Keep.same (same_new (o := .tup [x, y, z]) hT)
  ⟨k, R2.new hT, rep_wt.mpr ⟨T, [x, y, z], rfl, upd_same, .cons (r1.step (List.prefix_refl _) k) (.cons (r2.step (List.prefix_refl _) k) (.cons (r3.step (List.prefix_refl _) k) .nil_iff))⟩⟩
theorem ri_zip3 {e e2 e3 : Expr} {r : AL} {p pos tpos : Pos} {elts : List Expr} {kk : Nat} (hg : Gl X "zip") (hm : X.mg "zip" = none) (ha : RA X TZ F W [e, e2, e3] r)
    (hs : starEach [e, e2, e3] X.env = (false, eval e X.env) :: starEach [e2, e3] X.env := by rfl) (hpl : (backTo pos (starEach [e2, e3] X.env)).any (·.1) = false := by rfl) : RI X TZ F W (.Tuple elts kk tpos) (.Call (.Name "zip" p) [e, e2, e3] [] pos) (wArg zip3M r) := by
  refine ⟨_, pi_zipK3 hg hm ha hs hpl, fun σ H θ st ρ R hR hE q => ⟨θ, st, ρ, hR, hE, q.seq fun θ1 ds s1 vs H1 p1 k1 R1 r1 h1 => ?_⟩⟩
  obtain ⟨wk, s2, ew, q2⟩ := res_liftI h1
  unfold zip3M at ew
  split at ew
  · split at ew
    · rename_i xs l1 ys l2 zs l3 hx hy hz
      cases ew
      obtain ⟨v, w, u, rfl, rv, rw2, ru⟩ := rep_list3 r1
      obtain ⟨kd1, a, rfl, ⟨vs, z1⟩, f1⟩ := seqW_rep R1 rv hx
      obtain ⟨kd2, b, rfl, ⟨ws, z2⟩, f2⟩ := seqW_rep R1 rw2 hy
      obtain ⟨kd3, c, rfl, ⟨us, z3⟩, f3⟩ := seqW_rep R1 ru hz
      refine ⟨kd1, kd2, kd3, a, b, c, vs, ws, us, rfl, z1, z2, z3, q2 θ1 _ H1 (List.prefix_refl _) (Keep.refl _) R1 fun θ2 s2 H2 p2 k2 R2 ok => ?_⟩
      obtain ⟨o12, o3⟩ := okW_app ok
      obtain ⟨o1, o2⟩ := okW_app o12
      obtain ⟨vs, e1, r1⟩ := f1 θ2 s2 H2 p2 k2 R2 o1
      obtain ⟨ws, e2, r2⟩ := f2 θ2 s2 H2 p2 k2 R2 o2
      obtain ⟨us, e3, r3⟩ := f3 θ2 s2 H2 p2 k2 R2 o3
      have hl : xs.length = vs.length := r1.length
      have hl2 : ys.length = ws.length := r2.length
      have hl3 : zs.length = us.length := r3.length
      refine ⟨fun i hi => ⟨vs, ws, us, e1, e2, e3, ?_⟩, fun i d hd => ?_⟩
      · have hi : i = (zip3L xs ys zs).length := hi
        rw [zip3L_len] at hi
        omega
      · obtain ⟨d1, d2, d3, h1, h2, h3, rfl⟩ := zip3L_get hd
        obtain ⟨v, hv, rv⟩ := r1.get h1
        obtain ⟨w, hw, rw2⟩ := r2.get h2
        obtain ⟨u, hu, ru⟩ := r3.get h3
        refine ⟨⟨vs, ws, us, v, w, u, e1, e2, e3, hv, hw, hu⟩, fun x H' y => ?_⟩
        obtain ⟨T, x', y', z', rfl, hT, rfl, y1, y2, y3⟩ := y
        have g1 := y1 vs e1
        have g2 := y2 ws e2
        have g3 := y3 us e3
        rw [hv] at g1
        rw [hw] at g2
        rw [hu] at g3
        cases g1
        cases g2
        cases g3
        exact triple_new R2 hT rv rw2 ru
    · cases ew
  · cases ew
end
end Rg

/-! count; three at once; what is never reached -/
namespace Rg
open PySem PySem.Spec PyProof.Rows L2 Fs
section
variable {X : Cx} {TZ : Tabz} {F : Fx} {W : WX} {θ : List Addr} {H : Hp} {st : Sto}
theorem rss_no {body : List Stmt} : RSs X TZ F W body (fun _ _ => .no) := ⟨fun _ _ _ _ _ _ ⟨_, _, _, _, _, q⟩ => q.elim⟩
/-! ### xs.count(k) -/
theorem mt_tcount : MtR X "tuple.count" (fun x xs H Q => ∃ (p : Addr) (ns : List Int) (k : Int), x = .ref p ∧ xs = [.int k] ∧ SqT X.K H p (ns.map V.int) ∧ Q (.int (ns.count k : Nat)) H) := by
  intro pins s σ H x xs v us Q I rx rxs h
  obtain ⟨p, ns, k, rfl, rfl, hs, q⟩ := h
  cases rx
  obtain ⟨u, rfl, ru⟩ := rxs.one
  obtain ⟨t, rfl⟩ := ru
  obtain ⟨its, rv, ⟨⟨cls, dd, data, sl⟩, ho, hc, n, hd⟩, hlen⟩ := I.tuple hs
  simp only at hc hd
  subst hc hd
  have hi := ints_of_vals rv
  refine call_meets PySem.F.slot_tuple_count ⟨_, ho, rfl⟩ PySem.F.entry_tuple_count (PySem.F.args_tuple_count_2 _ _)
    (SeqAt.tuple_countAt p its.toArray n dd sl (.int k t) (eqk k)) ⟨ho, fun y hy => (eqk_gives hi y (by simpa using hy)).at _ _, ?_⟩
  have ec : its.toArray.toList.countP (eqk k) = ns.count k := eqk_count hi
  refine ⟨.int (ns.count k : Nat), H, I.tok _, ⟨s.toks, ?_⟩, q⟩
  show Value.int ((its.toArray.toList.countP (eqk k) : Nat) : Int) s.toks = Value.int ((ns.count k : Nat) : Int) s.toks
  rw [ec]
def countM (x y : D) (st : Sto) : Option (D × Sto) := match itemsOf x st, y with
  | some xs, .int k => (intsOf xs).map fun ns => (.int (ns.count k : Nat), st)
  | _, _ => none
def cCount (o : C) (r : AL) : C := fun ρ st => (o ρ st).bind fun d s => if (itemsOf d s).isSome = true then (r ρ s).bind fun ds s2 => match ds with
  | [y] => lift (countM d y s2)
  | _ => .no else .no
end
end Rg

/-! try with several clauses, with and without names -/
namespace Rg
open PySem PySem.Spec PyProof.Rows L2 Fs
abbrev Clause := Value × Option (Nat × Str) × (Addr → Value → Option Addr → TS)
/-- the ends of a suite whose name goes -/
def endN (D : Ends) : Option (Nat × Str) → Ends
  | none => D
  | some (i, _) => { nx := fun σ' H' => D.nx (σ'.set i none) H', rt := D.rt, bk := fun σ' H' => D.bk (σ'.set i none) H', ct := fun σ' H' => D.ct (σ'.set i none) H' }
def slotN (σ : L2.St) (a : Addr) : Option (Nat × Str) → L2.St
  | none => σ
  | some (i, _) => σ.set i (some (.ref a))
def wManyN (K : PySem.W.Frag) (Wout : WX) (D : Ends) : List Clause → WX
  | [] => Wout
  | (c, oi, ts) :: r => fun cls d σ H => ∃ b, PySem.W.exmOne K cls c = some b ∧ (b = true → ∀ a, H a = none → ts a cls d (endN D oi) (slotN σ a oi) H) ∧ (b = false → wManyN K Wout D r cls d σ H)
inductive HdsN (X : Cx) : List ExceptHandler → List Clause → Prop
  | nil : HdsN X [] []
  | cons {x : Str} {c : Value} {ts : Addr → Value → Option Addr → TS} {b₀ : Stmt} {suite : List Stmt} {np pos' : Pos} {hds : List ExceptHandler} {l : List Clause} (hc : Names X x c)
      (hsu : ∀ (a : Addr) (oe : Obj) (cls : Value) (d : Option Addr) (pn : List (Addr × Obj)), Zc cls d oe → (∃ vs, oe.data = .fields vs) → PSs (X.suite a ((a, oe) :: pn)) (b₀ :: suite) (ts a cls d)) (r : HdsN X hds l) :
      HdsN X (.ExceptHandler (some (.Name x np)) none (b₀ :: suite) pos' :: hds) ((c, none, ts) :: l)
  | consN {x n : Str} {i : Nat} {c : Value} {ts : Addr → Value → Option Addr → TS} {b₀ : Stmt} {suite : List Stmt} {np pos' : Pos} {hds : List ExceptHandler} {l : List Clause} (hc : Names X x c) (hi : X.N[i]? = some n) (hln : X.env.kindOf n = some .local)
      (hsu : ∀ (a : Addr) (oe : Obj) (cls : Value) (d : Option Addr) (pn : List (Addr × Obj)), Zc cls d oe → (∃ vs, oe.data = .fields vs) → PSs (X.suite a ((a, oe) :: pn)) (b₀ :: suite) (ts a cls d)) (r : HdsN X hds l) :
      HdsN X (.ExceptHandler (some (.Name x np)) (some n) (b₀ :: suite) pos' :: hds) ((c, some (i, n), ts) :: l)
section
variable {X : Cx} {body : List Stmt} {h₀ : ExceptHandler} {hds : List ExceptHandler} {l : List Clause} {pos : Pos} {tb : WX → TS} {Wout : WX}
theorem ps_try_manyN (hs : X.stack = X.env :: X.outer) (hf : X.env.frame = some X.env.locals) (hN : X.N.Nodup) (tk : Takes X Wout)
    (hb : ∀ (W : WX) (pn : List (Addr × Obj)) (xe : Value → Shared → Prop), Takes (X.tr pn xe) W → PassesOwn (model X.prog X.w) X.A X.env xe → PSs (X.tr pn xe) body (tb W))
    (hh : HdsN X (h₀ :: hds) l) : PS X (.Try body (h₀ :: hds) [] [] pos) (fun D σ H => tb (wManyN X.K Wout D l) D σ H) := by
  refine ⟨fun pins s σ H D I h => ?_⟩
  have ok := I.ok
  have hfr : X.A.frames = some (X.env :: X.outer) := by rw [ok.frames, hs]
  refine wpAny_Try_except ?_
  refine wpAny_mono ((hb (wManyN X.K Wout D l) (X.pn ++ pins) (fun e s₁ => wpAny (model X.prog X.w) X.A (noteFrame e X.env) (fun _ s₂ => wpAny (model X.prog X.w) X.A (setFlight e none) (fun _ s₃ =>
    wpAny (model X.prog X.w) X.A (handleBy e X.env (h₀ :: hds)) (SP X pins D) X.xe s₃) X.xe s₂) X.xe s₁) (fun u s' xx => ?_) PassesOwn.looking).run [] s σ H D (I.toTry _) h) (fun f s1 hsp => ?_) (fun e s1 he => he)
  · obtain ⟨a, B, sI, pins', σ', H', cls, d, rfl, J', nb, up, sky, na, os, ag, w⟩ := xx
    have J : Inv X pins σ' H' sI := J'.ofTry ok
    have sky' : Sky B (X.env :: X.outer) a (Zc cls d) X.env.locals s'.heap := by rw [← hs]; exact sky
    show wpAny (model X.prog X.w) X.A (noteFrame (.ref a) X.env) _ _ _
    refine Sky.land Zc.steady hfr hf sky' fun h3 fl3 up3 => ?_
    have J3 : Inv X pins σ' H' { s' with heap := h3 } := J.landed nb fl3.1 (up.trans up3) os ag
    obtain ⟨oe3, vs3, he3, hz3, hd3⟩ := fl3.there
    have notFr : ∀ {h : Heap} {o : Obj} {vs : Array Value}, h.FunFrames B (X.env :: X.outer) → h.get? a = some o → o.data = .fields vs → a ∉ frs (X.env :: X.outer) := fun {h o vs} ff e dd hm => by
      obtain ⟨_, o', e', hnf⟩ := ff.mem hm
      rw [e] at e'; cases e'
      exact hnf _ dd
    have nfr := notFr fl3.2.2.1 he3 hd3
    have nL : a ≠ X.env.locals := fun z => nfr (List.mem_filterMap.mpr ⟨X.env, List.mem_cons_self, by rw [hf, z]⟩)
    have nF : a ∉ X.fs := fun hm => by
      obtain ⟨e, he, q⟩ := List.mem_filterMap.mp hm
      exact nfr (List.mem_filterMap.mpr ⟨e, List.mem_cons_of_mem _ he, q⟩)
    have S3 := J3.suite he3 hd3 na nL nF
    have go : ∀ {hds' : List ExceptHandler} {l' : List Clause}, HdsN X hds' l' → wManyN X.K Wout D l' cls d σ' H' →
        wpAny (model X.prog X.w) X.A (handleBy (.ref a) X.env hds') (SP X pins D) X.xe { s' with heap := h3 } := by
      intro hds' l' hk
      induction hk with
      | nil =>
        intro w
        refine wpAny_handleBy_nil ?_
        obtain ⟨k1, k2, k3, oe, vs, T, oT, ts', he, hz, hd, h1, hr⟩ := id fl3
        unfold PySem.passOn
        refine wpAny_bind (wpAny_field he hd h1 ?_)
        rw [if_neg (show ¬ ((Value.ref T == Value.none) = true) from by simp)]
        have fin : wpAny (model X.prog X.w) X.A (setFlight (.ref a) X.env.frame) (fun _ s4 => wpAny (model X.prog X.w) X.A (throw (.ref a) : Sem Flow) (SP X pins D) X.xe s4) X.xe { s' with heap := h3 } := by
          rw [hf]
          refine HandSPX.setFlight_upZ fl3 fun h4 hh4 up4 => wpAny_throw (tk _ _ ?_)
          exact ⟨a, B, sI, pins, σ', H', cls, d, rfl, J, nb, (up.trans up3).trans up4, .inr (.inr (by rw [hs]; exact hh4)), na, os, ag, w⟩
        first
          | exact wpAny_bind (wpAny_pure (wpAny_bind fin))
          | exact wpAny_bind fin
      | @cons x c ts b₀ suite np pos' hds2 l2 hc hsu r ih =>
        intro w
        obtain ⟨b, hb1, hyes, hno⟩ := w
        refine wpAny_handleBy_cons (codeAny_handlers_test ?_) (by intro q; cases q)
        have LT : PySem.W.Looks (model X.prog X.w) h3 (typeOf (.ref a)) cls := fun A Q E s k q => wpAny_typeOf_ref (k _ _ he3) (by rw [hz3.1]; exact q)
        have LM := PySem.W.exm_one (M := model X.prog X.w) (J3.kIn) LT hb1
        have test : ∀ {Q : Value → Shared → Prop} {E : Value → Shared → Prop}, Q c { s' with heap := h3 } → wpAny (model X.prog X.w) (X.A.mark (some (.ref a))) (eval (.Name x np) X.env) Q E { s' with heap := h3 } := fun {Q E} q => by
          obtain ⟨hg, hdbg, hm | ⟨hm, hv, hnn⟩⟩ := hc
          · exact ld_glob (X := X.suite a ((a, oe3) :: (X.pn ++ pins))) S3 hg hm q hdbg
          · exact ld_blt (X := X.suite a ((a, oe3) :: (X.pn ++ pins))) S3 hg hm hv q hnn hdbg
        refine test (LM.here ?_)
        cases b with
        | true =>
          refine codeAny_handlers_suite ?_
          refine HandSPX.lands_againZ fl3 fun h4 fl4 up4 => ?_
          have J4 : Inv X pins σ' H' { s' with heap := h4 } := J.landed nb fl4.1 ((up.trans up3).trans up4) os ag
          obtain ⟨oe4, vs4, he4, hz4, hd4⟩ := fl4.there
          have S4 := J4.suite he4 hd4 na nL nF
          refine wpAny_mono ((hsu a oe4 cls d (X.pn ++ pins) hz4 ⟨_, hd4⟩).run [] _ _ H' _ S4 (hyes rfl a na)) (fun f s6 hsp => ?_) (fun _ _ z => False.elim z)
          cases f with
          | next =>
            obtain ⟨σ6, H6, S6, q6⟩ := hsp
            exact ⟨_, _, S6.unsuite ok, q6⟩
          | brk =>
            obtain ⟨σ6, H6, S6, q6⟩ := hsp
            exact ⟨_, _, S6.unsuite ok, q6⟩
          | cont =>
            obtain ⟨σ6, H6, S6, q6⟩ := hsp
            exact ⟨_, _, S6.unsuite ok, q6⟩
          | ret u =>
            obtain ⟨v6, σ6, H6, S6, r6, q6⟩ := hsp
            exact ⟨_, _, _, S6.unsuite ok, r6, q6⟩
        | false =>
          show wpAny _ X.A (handleBy (.ref a) X.env hds2) _ _ _
          exact ih (hno rfl)
      | @consN x n i c ts b₀ suite np pos' hds2 l2 hc hi hln hsu r ih =>
        intro w
        obtain ⟨b, hb1, hyes, hno⟩ := w
        have hloc : Loc X.env.scope n := .inl hln
        refine wpAny_handleBy_cons (codeAny_handlers_test ?_) (by intro q; cases q)
        have LT : PySem.W.Looks (model X.prog X.w) h3 (typeOf (.ref a)) cls := fun A Q E s k q => wpAny_typeOf_ref (k _ _ he3) (by rw [hz3.1]; exact q)
        have LM := PySem.W.exm_one (M := model X.prog X.w) (J3.kIn) LT hb1
        have test : ∀ {Q : Value → Shared → Prop} {E : Value → Shared → Prop}, Q c { s' with heap := h3 } → wpAny (model X.prog X.w) (X.A.mark (some (.ref a))) (eval (.Name x np) X.env) Q E { s' with heap := h3 } := fun {Q E} q => by
          obtain ⟨hg, hdbg, hm | ⟨hm, hv, hnn⟩⟩ := hc
          · exact ld_glob (X := X.suite a ((a, oe3) :: (X.pn ++ pins))) S3 hg hm q hdbg
          · exact ld_blt (X := X.suite a ((a, oe3) :: (X.pn ++ pins))) S3 hg hm hv q hnn hdbg
        refine test (LM.here ?_)
        cases b with
        | true =>
          refine codeAny_handlers_suite_as ?_
          refine HandSPX.lands_againZ fl3 fun h4 fl4 up4 => ?_
          have J4 : Inv X pins σ' H' { s' with heap := h4 } := J.landed nb fl4.1 ((up.trans up3).trans up4) os ag
          obtain ⟨oe4, vs4, he4, hz4, hd4⟩ := fl4.there
          have S4 := J4.suite he4 hd4 na nL nF
          refine store_ok (X := X.suite a ((a, oe4) :: (X.pn ++ pins))) (v := .ref a) S4 hN hi hloc rfl (fun s5 S5 => ?_) (.inr hln)
          refine wpAny_mono ((hsu a oe4 cls d (X.pn ++ pins) hz4 ⟨_, hd4⟩).run [] s5 _ H' _ S5 (hyes rfl a na)) (fun f s6 hsp => ?_) (fun _ _ z => False.elim z)
          have end_ : ∀ {σ6 : L2.St} {H6 : Hp} {Q : Shared → Prop}, Inv (X.suite a ((a, oe4) :: (X.pn ++ pins))) [] σ6 H6 s6 → (∀ s7, Inv X pins (σ6.set i none) H6 s7 → Q s7) →
              wpAny (model X.prog X.w) X.A (do bindName X.env n .none; unbindBehindTheSuite X.env n pos') (fun _ s7 => Q s7) X.xe s6 := fun {σ6 H6 Q} S6 hq => gone_ok (S6.unsuite ok) hN hi hln hq
          cases f with
          | next =>
            obtain ⟨σ6, H6, S6, q6⟩ := hsp
            exact end_ S6 fun s7 J7 => ⟨_, _, J7, q6⟩
          | brk =>
            obtain ⟨σ6, H6, S6, q6⟩ := hsp
            exact end_ S6 fun s7 J7 => ⟨_, _, J7, q6⟩
          | cont =>
            obtain ⟨σ6, H6, S6, q6⟩ := hsp
            exact end_ S6 fun s7 J7 => ⟨_, _, J7, q6⟩
          | ret u =>
            obtain ⟨v6, σ6, H6, S6, r6, q6⟩ := hsp
            exact end_ S6 fun s7 J7 => ⟨_, _, _, J7, r6, q6⟩
        | false =>
          show wpAny _ X.A (handleBy (.ref a) X.env hds2) _ _ _
          exact ih (hno rfl)
    exact go hh w
  · cases f with
    | next =>
      obtain ⟨σ', H', J', q⟩ := hsp
      exact wpAny_execs_nil ⟨σ', H', J'.ofTry ok, q⟩
    | brk =>
      obtain ⟨σ', H', J', q⟩ := hsp
      exact ⟨σ', H', J'.ofTry ok, q⟩
    | cont =>
      obtain ⟨σ', H', J', q⟩ := hsp
      exact ⟨σ', H', J'.ofTry ok, q⟩
    | ret u =>
      obtain ⟨v, σ', H', J', r, q⟩ := hsp
      exact ⟨v, σ', H', J'.ofTry ok, r, q⟩
end
/-! ### over the plain store -/
def hMatch (c h : Str) : Bool := c == h || h == ("Refused" : Str)
structure ErrsOk (K : PySem.W.Frag) (mg : Str → Option Value) (errs hs : List Str) : Prop where
  at_ : ∀ c ∈ errs, ∀ Ca : Addr, mg c = some (.ref Ca) → XfC K Ca ∧ PySem.W.findIn K (.ref Ca) "what" = some none
  ex : ∀ c ∈ errs, ∀ h ∈ hs, ∀ Ca Ch : Addr, mg c = some (.ref Ca) → mg h = some (.ref Ch) → PySem.W.exmOne K (.ref Ca) (.ref Ch) = some (hMatch c h)
abbrev Cl2 := Str × Option (Nat × Str) × (D → S)
def endM : RO → RO
  | .rt d s => .rt d s
  | _ => .no
def inSl (ρ : En) : Option (Nat × Str) → Bool
  | none => true
  | some (i, _) => decide (i < ρ.length)
def wipeO (ρ : En) : Option (Nat × Str) → En
  | none => ρ
  | some (i, _) => ρ.set i none
def tryH (c : Str) (d : D) (ρ : En) (s : Sto) : List Cl2 → RO
  | [] => .ex c d ρ s
  | (h, oi, su) :: r => if hMatch c h = true then (if inSl ρ oi = true then endM (su d (wipeO ρ oi) s) else .no) else tryH c d ρ s r
def sTry (errs : List Str) (body : S) (hs : List Cl2) : S := fun ρ st => match body ρ st with
  | .ex c d ρ' s => if errs.contains c = true then tryH c d ρ' s hs else .no
  | r => r
section
variable {X : Cx} {TZ : Tabz} {F : Fx} {W : WX}
abbrev Fs0 (X : Cx) (oi : Option (Nat × Str)) (a dd : Addr) (d : D) : Fx := ⟨X.s_0, X.H_0, 0, [], oi.map fun p => (p.1, a, dd, d)⟩
def suT (X : Cx) (TZ : Tabz) (h : Str) (oi : Option (Nat × Str)) (su : D → S) : Addr → Value → Option Addr → TS := fun a cls dcl E σ H => ∃ (C dd : Addr) (d : D), cls = .ref C ∧ dcl = some dd ∧ XfC X.K C ∧ PySem.W.findIn X.K (.ref C) "what" = some none ∧ (∃ c, X.mg c = some (.ref C) ∧ hMatch c h = true) ∧ tMS (gx X TZ) (Fs0 X oi a dd d) We (su d) E σ H
/-- the clauses' suites -/
inductive HdsR (X : Cx) (TZ : Tabz) : List ExceptHandler → List Cl2 → Prop
  | nil : HdsR X TZ [] []
  | cons {x : Str} {su : D → S} {b₀ : Stmt} {suite : List Stmt} {np pos' : Pos} {hds : List ExceptHandler} {l : List Cl2} (hg : Gl X x) (hdb : (x == ("__debug__" : Str)) = false) (hm : ∃ Ch : Addr, X.mg x = some (.ref Ch))
      (hsu : ∀ (a : Addr) (oe : Obj) (cls : Value) (dcl : Option Addr) (pn : List (Addr × Obj)) (C dd : Addr) (d : D), Zc cls dcl oe → (∃ vs, oe.data = .fields vs) → cls = .ref C → dcl = some dd → XfC X.K C → PySem.W.findIn X.K (.ref C) "what" = some none → (∃ c, X.mg c = some (.ref C) ∧ hMatch c x = true) →
        RSs (X.suite a ((a, oe) :: pn)) TZ (Fs0 X none a dd d) We (b₀ :: suite) (su d)) (r : HdsR X TZ hds l) :
      HdsR X TZ (.ExceptHandler (some (.Name x np)) none (b₀ :: suite) pos' :: hds) ((x, none, su) :: l)
  | consN {x n : Str} {i : Nat} {su : D → S} {b₀ : Stmt} {suite : List Stmt} {np pos' : Pos} {hds : List ExceptHandler} {l : List Cl2} (hg : Gl X x) (hdb : (x == ("__debug__" : Str)) = false) (hm : ∃ Ch : Addr, X.mg x = some (.ref Ch)) (hi : X.N[i]? = some n) (hln : X.env.kindOf n = some .local)
      (hsu : ∀ (a : Addr) (oe : Obj) (cls : Value) (dcl : Option Addr) (pn : List (Addr × Obj)) (C dd : Addr) (d : D), Zc cls dcl oe → (∃ vs, oe.data = .fields vs) → cls = .ref C → dcl = some dd → XfC X.K C → PySem.W.findIn X.K (.ref C) "what" = some none → (∃ c, X.mg c = some (.ref C) ∧ hMatch c x = true) →
        RSs (X.suite a ((a, oe) :: pn)) TZ (Fs0 X (some (i, n)) a dd d) We (b₀ :: suite) (su d)) (r : HdsR X TZ hds l) :
      HdsR X TZ (.ExceptHandler (some (.Name x np)) (some n) (b₀ :: suite) pos' :: hds) ((x, some (i, n), su) :: l)
def clsOf (mg : Str → Option Value) (x : Str) : Value := (mg x).getD .none
theorem HdsR.toN {hds : List ExceptHandler} {l : List Cl2} (h : HdsR X TZ hds l) : HdsN X hds (l.map fun c => (clsOf X.mg c.1, c.2.1, suT X TZ c.1 c.2.1 c.2.2)) := by
  have key : ∀ {x : Str} {oi : Option (Nat × Str)} {su : D → S} {ss : List Stmt}, (∀ (a : Addr) (oe : Obj) (cls : Value) (dcl : Option Addr) (pn : List (Addr × Obj)) (C dd : Addr) (d : D), Zc cls dcl oe → (∃ vs, oe.data = .fields vs) → cls = .ref C → dcl = some dd → XfC X.K C → PySem.W.findIn X.K (.ref C) "what" = some none → (∃ c, X.mg c = some (.ref C) ∧ hMatch c x = true) →
      RSs (X.suite a ((a, oe) :: pn)) TZ (Fs0 X oi a dd d) We ss (su d)) →
      ∀ (a : Addr) (oe : Obj) (cls : Value) (d : Option Addr) (pn : List (Addr × Obj)), Zc cls d oe → (∃ vs, oe.data = .fields vs) → PSs (X.suite a ((a, oe) :: pn)) ss (suT X TZ x oi su a cls d) := by
    intro x oi su ss hsu a oe cls dcl pn hz hf
    refine ⟨fun pins s σ H D I ⟨C, dd, d, e1, e2, x1, x2, x3, q⟩ => ?_⟩
    exact (hsu a oe cls dcl pn C dd d hz hf e1 e2 x1 x2 x3).run pins s σ H D I q
  induction h with
  | nil => exact .nil
  | cons hg hdb hm hsu r ih =>
    obtain ⟨Ch, hm⟩ := hm
    refine .cons ⟨hg, hdb, .inl (by unfold clsOf; rw [hm]; rfl)⟩ (key (oi := none) hsu) ih
  | consN hg hdb hm hi hln hsu r ih =>
    obtain ⟨Ch, hm⟩ := hm
    refine .consN ⟨hg, hdb, .inl (by unfold clsOf; rw [hm]; rfl)⟩ hi hln (key (oi := some (_, _)) hsu) ih
theorem HdsR.mgs {hds : List ExceptHandler} {l : List Cl2} (h : HdsR X TZ hds l) : ∀ c ∈ l, ∃ Ch : Addr, X.mg c.1 = some (.ref Ch) := by
  induction h with
  | nil => intro c hc; cases hc
  | cons hg hdb hm hsu r ih => exact fun c hc => (List.mem_cons.mp hc).elim (fun z => by subst z; exact hm) (ih c)
  | consN hg hdb hm hi hln hsu r ih => exact fun c hc => (List.mem_cons.mp hc).elim (fun z => by subst z; exact hm) (ih c)
theorem rs_try {errs hn : List Str} {body : List Stmt} {h₀ : ExceptHandler} {hds : List ExceptHandler} {l : List Cl2} {mb : S} {pos : Pos} (EO : ErrsOk X.K X.mg errs hn) (hall : l.all (fun c => hn.contains c.1) = true) (hs : X.stack = X.env :: X.outer) (hf : X.env.frame = some X.env.locals) (hN : X.N.Nodup) (tk : Takes X W)
    (hb : ∀ (W : WX) (pn : List (Addr × Obj)) (xe : Value → Shared → Prop), Takes (X.tr pn xe) W → PassesOwn (model X.prog X.w) X.A X.env xe → RSs (X.tr pn xe) TZ F W body mb)
    (hh : HdsR X TZ (h₀ :: hds) l) : RS X TZ F W (.Try body (h₀ :: hds) [] [] pos) (sTry errs mb l) := by
  refine PS.imp (ps_try_manyN (tb := fun W => tMS (gx X TZ) F W mb) hs hf hN tk hb hh.toN) fun E σ H ⟨θ, st, ρ, hR, hE, q⟩ => ⟨θ, st, ρ, hR, hE, ?_⟩
  unfold sTry at q
  cases e : mb ρ st with
  | nx ρ' s => rw [e] at q; exact q
  | rt d s => rw [e] at q; exact q
  | bk ρ' s => rw [e] at q; exact q
  | ct ρ' s => rw [e] at q; exact q
  | no => rw [e] at q; exact q
  | ex c d ρ' s =>
    rw [e] at q
    have q : ResS (gx X TZ) F W θ H (if errs.contains c = true then tryH c d ρ' s l else .no) E := q
    split at q
    · rename_i hc
      have hc : c ∈ errs := by simpa using hc
      intro θ1 σ1 v H1 Ca dx p1 k1 R1 E1 r1 hm hd
      obtain ⟨x1, x2⟩ := EO.at_ c hc Ca hm
      have go : ∀ l' : List Cl2, (∀ c ∈ l', c.1 ∈ hn) → (∀ c ∈ l', ∃ Ch : Addr, X.mg c.1 = some (.ref Ch)) → ResS (gx X TZ) F W θ H (tryH c d ρ' s l') E →
          wManyN X.K W E (l'.map fun c => (clsOf X.mg c.1, c.2.1, suT X TZ c.1 c.2.1 c.2.2)) (.ref Ca) (some dx) σ1 H1 := by
        intro l'
        induction l' with
        | nil => exact fun _ _ q => q θ1 σ1 v H1 Ca dx p1 k1 R1 E1 r1 hm hd
        | cons cl r ih =>
          obtain ⟨h, oi, su⟩ := cl
          intro a1 a2 q
          obtain ⟨Ch, hmh⟩ := a2 _ (List.mem_cons_self ..)
          have hmh : X.mg h = some (.ref Ch) := hmh
          refine ⟨hMatch c h, ?_, fun hb a ha => ?_, fun hb => ?_⟩
          · show PySem.W.exmOne X.K (.ref Ca) (clsOf X.mg h) = _
            unfold clsOf
            rw [hmh]
            exact EO.ex c hc h (a1 _ (List.mem_cons_self ..)) Ca Ch hm hmh
          · unfold tryH at q
            rw [if_pos hb] at q
            split at q
            · rename_i hin
              refine ⟨Ca, dx, d, rfl, rfl, x1, x2, ⟨c, hm, hb⟩, θ1, s, wipeO ρ' oi, R1, ?_, ?_⟩
              · cases oi with
                | none => exact ⟨E1.len, E1.has, fun i φ e => (by cases e), fun _ _ _ _ e => (by cases e)⟩
                | some p =>
                  obtain ⟨i, n⟩ := p
                  have hi : i < ρ'.length := of_decide_eq_true hin
                  have hlen : i < σ1.length := by rw [← E1.len]; exact hi
                  refine ⟨by simp [wipeO, slotN, E1.len], fun j d' e => ?_, fun i φ e => (by cases e), fun j a' dd' d' e => ?_⟩
                  · have e : (ρ'.set i none)[j]? = some (some d') := e
                    have hj : j ≠ i := fun z => by
                      subst z
                      rw [List.getElem?_set_self hi] at e
                      cases e
                    rw [List.getElem?_set_ne (Ne.symm hj)] at e
                    obtain ⟨w, e1, r⟩ := E1.has j d' e
                    exact ⟨w, by show (σ1.set i (some (.ref a)))[j]? = _; rw [List.getElem?_set_ne (Ne.symm hj)]; exact e1, r⟩
                  · cases e
                    exact ⟨by show (σ1.set i (some (.ref a)))[i]? = _; rw [List.getElem?_set_self hlen], v, hd, r1⟩
              · cases e2 : su d (wipeO ρ' oi) s with
                | rt d2 s2 =>
                  rw [e2] at q
                  have q : ∀ (θ' : List Addr) (v : V) (H' : Hp), θ <+: θ' → Keep H H' → Rel (gx X TZ) θ' s2 H' → RepV X.K θ' H' d2 v → E.rt v H' := q
                  show ResS (gx X TZ) (Fs0 X oi a dx d) We θ1 H1 (su d (wipeO ρ' oi) s) (endN E oi)
                  rw [e2]
                  cases oi with
                  | none => exact fun θ2 v2 H2 p2 k2 R2 r2 => q θ2 v2 H2 (p1.trans p2) (k1.trans k2) R2 r2
                  | some p => exact fun θ2 v2 H2 p2 k2 R2 r2 => q θ2 v2 H2 (p1.trans p2) (k1.trans k2) R2 r2
                | nx _ _ => rw [e2] at q; exact q.elim
                | bk _ _ => rw [e2] at q; exact q.elim
                | ct _ _ => rw [e2] at q; exact q.elim
                | ex _ _ _ _ => rw [e2] at q; exact q.elim
                | no => rw [e2] at q; exact q.elim
            · exact q.elim
          · unfold tryH at q
            rw [if_neg (by rw [hb]; simp)] at q
            exact ih (fun c hc => a1 c (List.mem_cons_of_mem _ hc)) (fun c hc => a2 c (List.mem_cons_of_mem _ hc)) q
      exact go l (fun c hc => by simpa using List.all_eq_true.mp hall c hc) hh.mgs q
    · exact q.elim
/-- e.what in a suite -/
theorem re_what {i : Nat} {n : Str} {a C dd : Addr} {d : D} {oe : Obj} {cls : Value} {dcl : Option Addr} {pn : List (Addr × Obj)} {pos p1 : Pos} (hz : Zc cls dcl oe) (hf : ∃ vs, oe.data = .fields vs) (e1 : cls = .ref C) (e2 : dcl = some dd) (x1 : XfC X.K C) (x2 : PySem.W.findIn X.K (.ref C) "what" = some none)
    (hN : X.N[i]? = some n := by rfl) (hv : Vis X.env.scope n := by first | exact Or.inl rfl | exact Or.inr (Or.inl rfl) | exact Or.inr (Or.inr rfl)) (hd : (n == ("__debug__" : Str)) = false := by decide) (hcd : (n == ("__classdict__" : Str)) = false := by decide) (hb : attributeBase (.Name n p1) "what" X.env (eval (.Name n p1) X.env) = eval (.Name n p1) X.env := by rfl) :
    RE (X.suite a ((a, oe) :: pn)) TZ (Fs0 X (some (i, n)) a dd d) We (.Attribute (.Name n p1) "what" pos) (cK d) := by
  refine PE.imp (pe_xf (X := X) x1 x2 hz hf (pe_var (X := X.suite a ((a, oe) :: pn)) hN hv hd hcd) hb) fun σ H Q ⟨θ, st, ρ, hR, hE, q⟩ => ?_
  obtain ⟨e3, v, e4, r⟩ := hE.exc i a dd d rfl
  exact ⟨.ref a, e3, rfl, e1, dd, _, v, e2, e4, rfl, q.now hR r⟩
/-- isinstance(e, Y) in a suite of an own class -/
theorem hMatch_own {c h : Str} (hh : (h == ("Refused" : Str)) = false) (e : hMatch c h = true) : c = h := by
  unfold hMatch at e
  rw [hh, Bool.or_false] at e
  exact eq_of_beq e
theorem re_isE {i : Nat} {n y x : Str} {a C Cx Cy fI CR dd : Addr} {b : Bool} {d : D} {oe : Obj} {cls : Value} {dcl : Option Addr} {pn : List (Addr × Obj)} {pos p p1 p2 : Pos} (hz : Zc cls dcl oe) (hf : ∃ vs, oe.data = .fields vs) (e1 : cls = .ref C) (e2 : dcl = some dd) (x3 : ∃ c, X.mg c = some (.ref C) ∧ hMatch c x = true) (hx : (x == ("Refused" : Str)) = false) (Ex : ErrC X.K X.mg x Cx fI CR)
    (hk : PySem.W.kitOne X.K (.ref Cx) (.ref Cy) = some b) (hgI : Gl (X.suite a ((a, oe) :: pn)) "isinstance") (hmI : X.mg "isinstance" = none) (hgy : Gl (X.suite a ((a, oe) :: pn)) y) (hmy : X.mg y = some (.ref Cy)) (hN : X.N[i]? = some n := by rfl) (hv : Vis X.env.scope n := by first | exact Or.inl rfl | exact Or.inr (Or.inl rfl) | exact Or.inr (Or.inr rfl)) (hd : (n == ("__debug__" : Str)) = false := by decide) (hcd : (n == ("__classdict__" : Str)) = false := by decide) (hdy : (y == ("__debug__" : Str)) = false := by decide)
    (hs : starEach [.Name n p1, .Name y p2] X.env = (false, eval (.Name n p1) X.env) :: starEach [.Name y p2] X.env := by rfl) (hs2 : starEach [.Name y p2] X.env = (false, eval (.Name y p2) X.env) :: starEach [] X.env := by rfl) (hpl : (backTo pos (starEach [.Name y p2] X.env)).any (·.1) = false := by rfl) :
    RE (X.suite a ((a, oe) :: pn)) TZ (Fs0 X (some (i, n)) a dd d) We (.Call (.Name "isinstance" p) [.Name n p1, .Name y p2] [] pos) (cK (.bl b)) := by
  obtain ⟨c, hc, hm⟩ := x3
  cases hMatch_own hx hm
  have hC := Ex.g.symm.trans hc
  cases hC
  refine PE.imp (pe_callB (X := X.suite a ((a, oe) :: pn)) (call_isD Ex.X hz hf) hgI hmI (by decide +kernel) (pa_cons (pe_var (X := X.suite a ((a, oe) :: pn)) hN hv hd hcd) (pa_cons (pe_glob (X := X.suite a ((a, oe) :: pn)) (v := .ref Cy) hgy hmy rfl hdy) pa_nil hs2) hs) (by decide) (by decide) hs hpl) fun σ H Q ⟨θ, st, ρ, hR, hE, q⟩ => ?_
  obtain ⟨e3, v, e4, r⟩ := hE.exc i a dd d rfl
  exact ⟨.ref a, e3, .ref Cy, .ref Cy, b, dd, _, rfl, fun u r => r, e1, e2, e4, hk, q.now hR (rep_bl.mpr rfl)⟩
end
theorem blkOk_rel {N : List Str} {s0 sc scope : Scope} {own : List (Str × Nat)} (h : blkC N (relS s0 sc) scope own = true) : BlkOk N (relS s0 sc) scope own := blkOk_by h
theorem blkOk_rel2 {N : List Str} {s1 s0 sc scope : Scope} {own : List (Str × Nat)} (h : blkC N (relS s1 (relS s0 sc)) scope own = true) : BlkOk N (relS s1 (relS s0 sc)) scope own := blkOk_by h
section
variable {X : Cx} {TZ : Tabz} {F : Fx} {W : WX} {θ : List Addr} {H : Hp} {st : Sto}
/-- a def of the text as the last argument -/
theorem gcR_no {st : Sto} : gcR st .no = .no := rfl
theorem startM_len : ∀ {n : Nat} {ds : List D} {m : Nat}, True := trivial
theorem rf_def {x : Str} {k j n : Nat} {M : List Clo → Clo} {pos : Pos} (Fm : FnM (gx X TZ) x k 0 (List.replicate n false) M) (hex : X.ex = []) (hk : k ≤ j) (hg : Gl X x) (hn : ∀ ds st, ds.length ≠ n → M [] ds st = .no)
    (hdb : (x == ("__debug__" : Str)) = false := by decide) (hs : starEach [.Name x pos] X.env = (false, eval (.Name x pos) X.env) :: starEach [] X.env := by rfl) : RF X TZ F W j [true] [.Name x pos] (afDef M) := by
  refine ⟨fun ps pins s σ H Q θ st ρ I hR hE q => ?_⟩
  obtain ⟨f, hm, kp, fn, run⟩ := Fm.ex
  rw [hs]
  show wpAny _ _ (spliced ((false, eval (.Name x pos) X.env) :: [])) _ _ s
  refine Calls.spliced_cons (ld_glob I hg hm ?_ hdb)
  refine Calls.spliced_nil ⟨[.ref f], H, I, .cons rfl .nil, ?_⟩
  refine q θ s [.ref f] H (List.prefix_refl _) (Keep.refl _) hR ⟨_, [], f, [], rfl, rfl, ?_, rfl, rfl, rfl⟩
  refine calls_def (x := x) hm Fm hk hn fun s2 H2 l => ?_
  obtain ⟨fs, un⟩ := l.un
  obtain ⟨oc, od, fd, sl, e⟩ := fn X.base I.ok.mod.kin
  obtain ⟨e1, e2⟩ := I.bs f _ e
  obtain ⟨sl2, e3⟩ := un.any e1 e2 (by simp)
  exact ⟨oc, od, fd, sl2, e3⟩
/-- a tuple's type, and that it has no dict of its own -/
theorem pt_ty {pins : List (Addr × Obj)} {σ : L2.St} {s : Shared} {a : Addr} {xs : List V} (I : Inv X pins σ H s) (h : Pt X.K H a xs) : s.TypeIs (.ref a) "tuple" ∧ ∀ b, Value.ref a = .ref b → ∃ ob, s.heap.get? b = some ob ∧ ob.dict = none := by
  rcases h with ⟨o, hd, e⟩ | ⟨o, its, n, h1, h2, h3, _⟩
  · obtain ⟨g, _, us, _, tp⟩ := I.hok _ _ e
    exact ⟨tp.typeIs, fun b z => by cases z; exact ⟨o, g, hd⟩⟩
  · exact ⟨⟨o, I.kIn _ o h1, h2⟩, fun b z => by cases z; exact ⟨o, I.kIn _ o h1, h3⟩⟩
theorem sql_ty {pins : List (Addr × Obj)} {σ : L2.St} {s : Shared} {a : Addr} {xs : List V} (I : Inv X pins σ H s) (h : SqL X.K H a xs) : s.TypeIs (.ref a) "list" ∧ ∀ b, Value.ref a = .ref b → ∃ ob, s.heap.get? b = some ob ∧ ob.dict = none := by
  obtain ⟨its, _, pl, _⟩ := I.list h
  refine ⟨pl.isList.typeIs, fun b z => ?_⟩
  cases z
  obtain ⟨o, n, e, c, hd, _⟩ := pl
  exact ⟨o, e, hd⟩
theorem re_count {o e : Expr} {mo : C} {r : AL} {apos cpos : Pos} (ho : RE X TZ F W o mo) (ha : RA X TZ F W [e] r)
    (hbase : attributeBase o "count" X.env (eval o X.env) = eval o X.env := by rfl)
    (hfew : ((backTo cpos (starEach [e] X.env)).all (fun x => !x.1) && (backToKw cpos (keywordEach [] X.env)).all (fun x => x.1.isSome)
      && decide ([e].length + ([] : List Keyword).length + (if ([] : List Keyword).isEmpty then 0 else 1) < 30)) = true := by rfl)
    (hline : (apos.endLine == cpos.line) = true := by rfl) (hs : starEach [e] X.env = (false, eval e X.env) :: starEach [] X.env := by rfl) (hplain : (backTo cpos (starEach [] X.env)).any (·.1) = false := by rfl) :
    RE X TZ F W (.Call (.Attribute o "count" apos) [e] [] cpos) (cCount mo r) := by
  refine ⟨fun pins s σ H Q I ⟨θ, st, ρ, hR, hE, q⟩ => ?_⟩
  refine wpAny_Call_method_late hbase hfew hline rfl (thn (ho.run pins s σ H (fun x H1 => ∃ (θ1 : List Addr) (d : D) (s1 : Sto), Rel (gx X TZ) θ1 s1 H1 ∧ EnvR (gx X TZ) F θ1 H1 ρ σ ∧ RepV X.K θ1 H1 d x ∧
    Res (gx X TZ) (rV (gx X TZ)) W σ θ1 H1 (if (itemsOf d s1).isSome = true then (r ρ s1).bind fun ds s2 => match ds with
      | [y] => lift (countM d y s2)
      | _ => .no else .no) Q) I ⟨θ, st, ρ, hR, hE, q.seq fun θ1 d s1 x H1 p1 k1 R1 r1 h1 => ⟨θ1, d, s1, R1, hE.step p1 k1, r1, h1⟩⟩) fun v t1 ⟨x, H1, I1, rx, θ1, d, s1, R1, E1, r1, q1⟩ => ?_)
  split at q1
  · rename_i hi
    obtain ⟨zs, hz⟩ := Option.isSome_iff_exists.mp hi
    have arg : wpAny (model X.prog X.w) X.A (spliced (backTo cpos (starEach [e] X.env))) (AP X pins σ fun ws H2 => ∃ (θ2 : List Addr) (s2 : Sto) (xs : List D) (ns : List Int) (k : Int), ws = [.int k] ∧ Rel (gx X TZ) θ2 s2 H2 ∧ RepV X.K θ2 H2 d x ∧
        itemsOf d s2 = some xs ∧ intsOf xs = some ns ∧ Q (.int (ns.count k : Nat)) H2) X.xe t1 := by
      refine ha.run cpos pins t1 σ H1 _ I1 ⟨θ1, s1, ρ, R1, E1, q1.seq fun θ2 ds s2 ws H2 p2 k2 R2 r2 h2 => ?_⟩
      split at h2
      · rename_i y
        obtain ⟨w, rfl, rw⟩ := rep_list1 r2
        obtain ⟨z, s3, ez, qq⟩ := res_lift h2
        unfold countM at ez
        split at ez
        · rename_i xs k hx
          obtain ⟨ns, hn, ez⟩ := Option.map_eq_some_iff.mp ez
          cases ez
          cases rep_int.mp rw
          exact ⟨θ2, s2, xs, ns, k, rfl, R2, r1.step p2 k2, hx, hn, qq θ2 _ H2 (List.prefix_refl _) (Keep.refl _) R2 (rep_int.mpr rfl)⟩
        · cases ez
      · exact h2.elim
    rw [hs] at arg ⊢
    have pl : ((false, eval e X.env) :: backTo cpos (starEach [] X.env)).any (·.1) = false := by show (false || (backTo cpos (starEach [] X.env)).any (·.1)) = false; rw [hplain] <;> rfl
    by_cases ht : ∃ ys, d = .tup ys
    · obtain ⟨ys, rfl⟩ := ht
      obtain ⟨a, vs, rfl, s0, _⟩ := rep_tup.mp r1
      cases rx
      obtain ⟨h1, h2⟩ := pt_ty I1 s0
      refine ⟨"tuple", "tuple.count", PySem.F.plainAttrs_tuple, PySem.F.slot_tuple_count, rfl, h1, h2, Calls.callWith_builtin pl (Calls.evalArgs_plain (thn arg fun us t2 ⟨ws, H2, I2, ru, θ2, s2, xs, ns, k, e1, R2, r2, e2, e3, qq⟩ => ?_))⟩
      subst e1
      cases e2
      obtain ⟨a', vs', ea, s1, rr⟩ := rep_tup.mp r2
      cases ea
      exact mt_tcount pins t2 σ H2 (.ref a) _ _ us Q I2 rfl ru ⟨a, ns, k, rfl, rfl, by rw [intsOf_some e3] at rr; rw [← RepVs.ints.mp rr]; exact s1.sq, qq⟩
    · have key : ∀ {θ : List Addr} {s : Sto} {H : Hp} {xs : List D}, Rel (gx X TZ) θ s H → RepV X.K θ H d x → itemsOf d s = some xs → ∃ (a : Addr) (vs : List V), x = .ref a ∧ SqL X.K H a vs ∧ RepVs X.K θ H xs vs := fun R r e => by
        unfold itemsOf at e
        split at e
        · exact absurd ⟨_, rfl⟩ ht
        · cases e
          obtain ⟨a, vs, rfl, s1, r1⟩ := rep_fl.mp r
          exact ⟨a, vs, rfl, s1.sq, r1⟩
        · split at e
          · rename_i hx
            cases e
            obtain ⟨a, vs, rfl, _, e1, r1⟩ := R.lstOf hx r
            exact ⟨a, vs, rfl, SqL.of e1, r1⟩
          · cases e
        · cases e
      obtain ⟨a, vs, rfl, s0, _⟩ := key R1 r1 hz
      cases rx
      obtain ⟨h1, h2⟩ := sql_ty I1 s0
      refine ⟨"list", "list.count", PySem.F.plainAttrs_list, PySem.F.slot_list_count, rfl, h1, h2, Calls.callWith_builtin pl (Calls.evalArgs_plain (thn arg fun us t2 ⟨ws, H2, I2, ru, θ2, s2, xs, ns, k, e1, R2, r2, e2, e3, qq⟩ => ?_))⟩
      subst e1
      obtain ⟨a', vs', ea, s1, rr⟩ := key R2 r2 e2
      cases ea
      exact mt_lcount pins t2 σ H2 (.ref a) _ _ us Q I2 rfl ru ⟨a, ns, k, rfl, rfl, by rw [intsOf_some e3] at rr; rw [← RepVs.ints.mp rr]; exact s1, qq⟩
  · exact q1.elim
end
end Rg

/-! the law's end -/
namespace Rg
open PySem PySem.Spec PyProof.Rows L2 Fs
/-- a table of the errors' addresses -/
def errsB (K : PySem.W.Frag) (t : List (Str × Addr)) (es hs : List Str) : Bool := es.all fun c => match t.lookup c with
  | some a => xfB K a && decide (PySem.W.findIn K (.ref a) "what" = some none) && hs.all fun h => match t.lookup h with
    | some b => decide (PySem.W.exmOne K (.ref a) (.ref b) = some (hMatch c h))
    | none => false
  | none => false
theorem lookup_mem {α β : Type} [BEq α] [LawfulBEq α] : ∀ {l : List (α × β)} {a : α} {b : β}, l.lookup a = some b → (a, b) ∈ l
  | [], _, _, h => by cases h
  | (x, y) :: r, a, b, h => by
    rw [List.lookup_cons] at h
    split at h
    · rename_i e
      cases h
      rw [eq_of_beq e]
      exact List.mem_cons_self
    · exact List.mem_cons_of_mem _ (lookup_mem h)
theorem errsOk_of {K : PySem.W.Frag} {mg : Str → Option Value} {t : List (Str × Addr)} {es hs : List Str} (hm : ∀ p ∈ t, mg p.1 = some (.ref p.2)) (h : errsB K t es hs = true) : ErrsOk K mg es hs := by
  have key : ∀ c ∈ es, ∀ Ca : Addr, mg c = some (.ref Ca) → XfC K Ca ∧ PySem.W.findIn K (.ref Ca) "what" = some none ∧ ∀ h ∈ hs, ∀ Ch : Addr, mg h = some (.ref Ch) → PySem.W.exmOne K (.ref Ca) (.ref Ch) = some (hMatch c h) := fun c hc Ca e => by
    have z := List.all_eq_true.mp h c hc
    split at z
    · rename_i a ea
      have e1 := hm _ (lookup_mem ea)
      rw [e] at e1
      cases e1
      rw [Bool.and_eq_true, Bool.and_eq_true] at z
      refine ⟨xfB_ok z.1.1, of_decide_eq_true z.1.2, fun h2 hh Ch e2 => ?_⟩
      have z2 := List.all_eq_true.mp z.2 h2 hh
      split at z2
      · rename_i b eb
        have e3 := hm _ (lookup_mem eb)
        rw [e2] at e3
        cases e3
        exact of_decide_eq_true z2
      · cases z2
    · cases z
  exact ⟨fun c hc Ca e => ⟨(key c hc Ca e).1, (key c hc Ca e).2.1⟩, fun c hc h2 hh Ca Ch e e2 => (key c hc Ca e).2.2 h2 hh Ch e2⟩
/-- what the law's own function is to do: its script is a list, of the store or never changed -/
def Told (M : List Clo → Clo) : Prop := ∀ ns : List Int, ns.length ≤ 63 → (∃ s, M [] [.ref 0] [.lst (ns.map D.int)] = .ok (.bl true) s) ∧ ∃ s, M [] [.fl (ns.map D.int)] [] = .ok (.bl true) s
section
variable {P : Program} {w : World} {K : PySem.W.Frag} {mg : Str → Option Value} {base : Heap} {TZ : Tabz}
theorem okLaw {x z : Str} {st : Stmt} {f : Addr} {fd : FuncData} {N : List Str} {k n : Nat} {m : List Clo → S} {cdv : Value} (C : CodeV K x st f fd cdv) (Sc : FnScope N [z] (defScope st)) (hn : N.length - 1 = n)
    (hbody : ∀ (A : Around) (outer : List Env) (s : Shared) (H : Hp) (E : XK), Room k (A.deeper (envOfC x (defScope st) s.heap.objs.size f cdv)) → RSs (cxOf (L2.CX P w) P w K mg base N x (defScope st) f cdv A outer s H E) TZ ⟨s, H, 0, [], none⟩ (fun cls d _ H => E cls d H) (defBody st) (m []))
    (told : Told (runDef [false] n m)) : FnOk P w K mg base (L2.CX P w) (k + 1) f fd [z] (spLawT K TZ) := by
  obtain ⟨oc, od, kV, doc, pm, an, ct, osl, e, lk, hcd⟩ := C
  subst e
  refine ⟨fun vs H Q E ⟨a, ns, e, _⟩ => by rw [e]; rfl, fun A outer s H args us vs Q E hr e0 hb r ⟨a, ns, ev, hs, hl, ht, q⟩ => ?_⟩
  subst ev
  refine LamX.run_ofS lk hcd Sc hr e0 hb r rfl fun hr2 => ?_
  have go : ∀ (θ : List Addr) (d : D) (st0 : Sto), Rel ⟨P, w, K, mg, base, TZ⟩ θ st0 H → RepV K θ H d (.ref a) → (∃ s', runDef [false] n m [] [d] st0 = .ok (.bl true) s') → ∃ t, PSs (cxOf (L2.CX P w) P w K mg base N x (defScope st) f cdv A outer s H E) (defBody st) t ∧ t { nx := fun _ H' => Q .non H', rt := Q } (L2.start N [.ref a]) H := fun θ d st0 hR hd ⟨s', hq⟩ => by
    refine ⟨_, hbody A outer s H E hr2, θ, st0, startM [false] [d] n, hR, ⟨?_, fun j y h => ?_, fun j φ h => (by cases h), fun _ _ _ _ e => (by cases e)⟩, ?_⟩
    · show (some d :: List.replicate n none).length = (L2.start N [.ref a]).length
      unfold L2.start
      simp [hn]
    · have h : (some d :: List.replicate n none)[j]? = some (some y) := h
      cases j with
      | zero =>
        simp at h
        subst h
        exact ⟨.ref a, rfl, hd⟩
      | succ j =>
        simp [List.getElem?_replicate] at h
    · have hq : (if [d].length = plains [false] then gcR st0 (outR (m [] (startM [false] [d] n) st0)) else .no) = .ok (.bl true) s' := hq
      rw [if_pos (show [d].length = plains [false] from rfl)] at hq
      have q2 : Res ⟨P, w, K, mg, base, TZ⟩ (rV ⟨P, w, K, mg, base, TZ⟩) (fun c d _ H => E c d H) [] θ H (outR (m [] (startM [false] [d] n) st0)) Q := gcR_sound hR (by
        rw [hq]
        intro θ' b H' _ _ _ rb
        cases rep_bl.mp rb
        exact q H')
      cases e : m [] (startM [false] [d] n) st0 with
      | no => rw [e] at q2; exact q2
      | nx ρ s => rw [e] at q2; exact fun θ1 σ1 H1 p1 k1 R1 E1 => q2 θ1 .non H1 p1 k1 R1 (rep_non.mpr rfl)
      | rt d s => rw [e] at q2; exact q2
      | bk ρ s => rw [e] at q2; exact q2.elim
      | ct ρ s => rw [e] at q2; exact q2.elim
      | ex c d ρ s => rw [e] at q2; exact fun θ1 σ1 v H1 Ca dx p1 k1 R1 E1 => q2 θ1 v H1 Ca dx p1 k1 R1
  have flat : SqF K H a (ns.map V.int) → ∃ t, PSs (cxOf (L2.CX P w) P w K mg base N x (defScope st) f cdv A outer s H E) (defBody st) t ∧ t { nx := fun _ H' => Q .non H', rt := Q } (L2.start N [.ref a]) H := fun z =>
    go [] (.fl (ns.map D.int)) [] ⟨rfl, List.nodup_nil, fun n o a e => (by cases e), ht⟩ (rep_fl.mpr ⟨a, _, rfl, z, RepVs.ints.mpr rfl⟩) (told ns hl).2
  rcases hs with (h | ⟨o, h⟩) | h
  · refine go [a] (.ref 0) [.lst (ns.map D.int)] ⟨rfl, by simp, fun n o b e1 e2 => ?_, ht⟩ (rep_ref.mpr ⟨a, rfl, rfl⟩) (told ns hl).1
    cases n with
    | zero =>
      simp at e1 e2
      subst e1 e2
      exact ⟨_, _, h, rfl, RepVs.ints.mpr rfl⟩
    | succ n => cases e2
  · exact flat (.inl ⟨o, h⟩)
  · exact flat (.inr h)
end
theorem law_atC {l : PySem.W.OpenLaw} {w : World} {K : PySem.W.Frag} {CX : CXT} {k : Nat} {mg : Str → Option Value} {fa : Addr} {h : Heap} {ts : List Addr} {fd : FuncData} (cs : List (Addr × Addr)) (qs : List Str) (KX : K.In h) (hT : ∀ P ∈ ts, h.get? P = some (PySem.W.tabObj #[])) (m : (cs.all fun p => ts.contains p.2) = true)
    (n : (cs.all fun p => (K.lookup p.2).isNone) = true) (c : (cs.all fun p => PySem.W.codeHdIn K p.1 p.2) = true) (b : ∀ (s : Shared) (v : Value), BindsTo s fd ⟨[v], []⟩ [("script", v)])
    (F : ∀ base : Heap, K.In base → base.Ns mainGlobals mg → (∀ p ∈ cs, LamX.TabB base mg p.1 p.2) → FnOk l.prog w K mg base CX k fa fd ["script"] (spLawT K ((cs.map (·.2)).zip qs))) : LamX.LawAtS l w K CX k 63 "script" mg fa h := by
  refine ⟨fd, cs, _, fun p hp => hT _ (by simpa using List.all_eq_true.mp m p hp), fun p hp => ?_, fun p hp => PySem.W.codeHd_of_K KX (List.all_eq_true.mp c p hp), b, fun H a ns hl _ hH hS => ⟨a, ns, rfl, hS, hl, fun q hq => ?_, fun _ => rfl⟩, F⟩
  · have z := List.all_eq_true.mp n p hp
    cases e : K.lookup p.2 with
    | none => rfl
    | some o => rw [e] at z; cases z
  · obtain ⟨p, hp, e⟩ := List.mem_map.mp (List.of_mem_zip (show (q.1, q.2) ∈ _ from hq)).1
    exact LamX.TabS.nil (by rw [← e]; exact hH p hp)
end Rg

/-! three at once -/
namespace Rg
open PySem PySem.Spec PyProof.Rows L2 Fs
def sPar3 (i j l : Nat) (r : AL) : S := fun ρ st => thenS ρ (r ρ st) fun ds s => match ds with
  | [x, y, z] => .nx (((ρ.set i (some x)).set j (some y)).set l (some z)) s
  | _ => .no
section
variable {X : Cx} {TZ : Tabz} {F : Fx} {W : WX}
theorem rs_par3 {i j l : Nat} {x y z : Str} {a b c : Expr} {r : AL} {px py pz pt : Pos} {kt k2 pt2} {pos : Pos} (hc : X.calm = true) (hN : X.N.Nodup) (hi : X.N[i]? = some x) (hj : X.N[j]? = some y) (hl : X.N[l]? = some z) (hij : i ≠ j) (hil : i ≠ l) (hjl : j ≠ l)
    (hx : X.env.scope.names.lookup x = some .local) (hy : X.env.scope.names.lookup y = some .local) (hz : X.env.scope.names.lookup z = some .local) (ha : RA X TZ F W [a, b, c] r)
    (hw : swappedStores [.Tuple [.Name x px, .Name y py, .Name z pz] kt pt] (.Tuple [a, b, c] k2 pt2) X.env = pure (some [x, y, z]))
    (hs : swapsWithSole [.Tuple [.Name x px, .Name y py, .Name z pz] kt pt] (.Tuple [a, b, c] k2 pt2) pos.line X.env = pure false := by rfl) (hcl : F.free i = true := by rfl) (hcl2 : F.free j = true := by rfl) (hcl3 : F.free l = true := by rfl) :
    RS X TZ F W (.Assign [.Tuple [.Name x px, .Name y py, .Name z pz] kt pt] (.Tuple [a, b, c] k2 pt2) pos) (sPar3 i j l r) := by
  refine PS.imp (ps_par3 hc hN hi hj hl hij hil hjl hx hy hz ha hw hs) fun E σ H ⟨θ, s0, ρ, hR, hE, q⟩ => ⟨θ, s0, ρ, hR, hE, Res.thenS hE q fun θ1 ds s1 vs H1 p k R rp h1 => ?_⟩
  match ds, rp, h1 with
  | [d, e, f], rp, h1 =>
    unfold RepVs at rp
    obtain ⟨v, w, rfl, r1, rp⟩ := rp
    unfold RepVs at rp
    obtain ⟨v2, w2, rfl, r2, rp⟩ := rp
    unfold RepVs at rp
    obtain ⟨v3, w3, rfl, r3, rp⟩ := rp
    unfold RepVs at rp
    subst rp
    exact ⟨v, v2, v3, rfl, h1 θ1 _ H1 (List.prefix_refl _) (Keep.refl _) R ((((hE.step p k).set i hcl r1).set j hcl2 r2).set l hcl3 r3)⟩
  | [], rp, h1 => exact h1.elim
  | [_], rp, h1 => exact h1.elim
  | [_, _], rp, h1 => exact h1.elim
  | _ :: _ :: _ :: _ :: _, rp, h1 => exact h1.elim
end
end Rg

/-! in a list of data -/
namespace Rg
open PySem PySem.Spec PyProof.Rows L2 Fs
def inDB (x y : D) (st : Sto) : Option Bool := match toPy st 20 x, toPy st 20 y with
  | some a, some (.list ds) => if (SeqAt.shaped a && SeqAt.shaped (.list ds)) = true then some (ds.any fun z => PyData.eqv z a) else none
  | _, _ => none
def inDM (x y : D) (st : Sto) : Option (D × Sto) := (inDB x y st).map fun b => (.bl b, st)
def notInDM (x y : D) (st : Sto) : Option (D × Sto) := (inDB x y st).map fun b => (.bl (!b), st)
section
variable {X : Cx} {TZ : Tabz}
theorem inDB_rep {θ : List Addr} {st : Sto} {H : Hp} {d e : D} {v w : V} {b : Bool} (hR : Rel (gx X TZ) θ st H) (hd : RepV X.K θ H d v) (he : RepV X.K θ H e w) (h : inDB d e st = some b) :
    ∃ a ds, Dp X.K H v a ∧ Dp X.K H w (.list ds) ∧ SeqAt.shaped a = true ∧ SeqAt.shaped (.list ds) = true ∧ b = ds.any fun z => PyData.eqv z a := by
  unfold inDB at h
  split at h
  · rename_i a ds e1 e2
    split at h
    · rename_i hs
      cases h
      rw [Bool.and_eq_true] at hs
      exact ⟨a, ds, toPy_rep hR _ _ _ _ e1 hd, toPy_rep hR _ _ _ _ e2 he, hs.1, hs.2, rfl⟩
    · cases h
  · cases h
theorem op_inDM (hu : X.A.units + 65 < cLine) : OpR X (compareOp .In) (rM (gx X TZ) inDM) := by
  intro pins s σ H x y v u Q I rx ry h
  obtain ⟨θ, st, d, e, hR, hd, he, r, s', hr, q⟩ := h
  obtain ⟨b, hb, hz⟩ := Option.map_eq_some_iff.mp hr
  cases hz
  obtain ⟨a, c, h1, h2, h3, h4, rfl⟩ := inDB_rep hR hd he hb
  exact op_inD hu pins s σ H _ _ v u Q I rx ry ⟨a, c, h1, h2, h3, h4, q θ _ H (List.prefix_refl θ) (Keep.refl H) hR (rep_bl.mpr rfl)⟩
theorem op_notInDM (hu : X.A.units + 65 < cLine) : OpR X (compareOp .NotIn) (rM (gx X TZ) notInDM) := by
  intro pins s σ H x y v u Q I rx ry h
  obtain ⟨θ, st, d, e, hR, hd, he, r, s', hr, q⟩ := h
  obtain ⟨b, hb, hz⟩ := Option.map_eq_some_iff.mp hr
  cases hz
  obtain ⟨a, c, h1, h2, h3, h4, rfl⟩ := inDB_rep hR hd he hb
  exact op_notInD hu pins s σ H _ _ v u Q I rx ry ⟨a, c, h1, h2, h3, h4, q θ _ H (List.prefix_refl θ) (Keep.refl H) hR (rep_bl.mpr rfl)⟩
end
end Rg
namespace Rg
open PySem PySem.Spec PyProof.Rows L2 Fs
theorem units65 {k : Nat} {A : Around} (r : Room k A) : A.units + 65 < cLine := by
  have := r.un
  omega
end Rg

/-! dicts whose keys are tuples -/
namespace Rg
open PySem PySem.Spec PyProof.Rows L2 Fs
def keyD : Key → D
  | .inl i => .int i
  | .inr x => .str x
def keysOf : List D → Option (List Key)
  | [] => some []
  | .int i :: r => (keysOf r).map (.inl i :: ·)
  | .str x :: r => (keysOf r).map (.inr x :: ·)
  | _ => none
theorem keysOf_some : ∀ {ds : List D} {ks : List Key}, keysOf ds = some ks → ds = ks.map keyD
  | [], ks, h => by unfold keysOf at h; cases h; rfl
  | d :: r, ks, h => by
    unfold keysOf at h
    split at h
    · rename_i e; cases e
    · rename_i i r' e
      cases e
      obtain ⟨ms, h1, rfl⟩ := Option.map_eq_some_iff.mp h
      rw [keysOf_some h1]
      rfl
    · rename_i i r' e
      cases e
      obtain ⟨ms, h1, rfl⟩ := Option.map_eq_some_iff.mp h
      rw [keysOf_some h1]
      rfl
    · cases h
theorem keysOf_ints (ns : List Int) : keysOf (ns.map D.int) = some (ns.map Sum.inl) := by
  induction ns with
  | nil => rfl
  | cons n r ih => rw [List.map_cons, keysOf, ih]; rfl
def putD (kvs : List (List Key × D)) (k : List Key) (v : D) : List (List Key × D) :=
  if (kvs.any fun kv => decide (kv.1 = k)) = true then kvs.map (fun kv => if kv.1 = k then (kv.1, v) else kv) else kvs ++ [(k, v)]
section
variable {K : PySem.W.Frag} {θ : List Addr} {H : Hp}
theorem keys_repL : ∀ {ks : List Key} {vs : List V}, RepVs K θ H (ks.map keyD) vs → vs = ks.map kV
  | [], vs, h => rep_nil h
  | k :: ks, vs, h => by
    unfold List.map RepVs at h
    obtain ⟨v, r, rfl, h1, h2⟩ := h
    rw [keys_repL h2]
    cases k with
    | inl i => cases rep_int.mp h1; rfl
    | inr x => cases rep_str.mp h1; rfl
theorem keys_repR : ∀ {ks : List Key}, RepVs K θ H (ks.map keyD) (ks.map kV)
  | [] => .nil_iff
  | k :: ks => by
    refine .cons ?_ keys_repR
    cases k with
    | inl i => exact rep_int.mpr rfl
    | inr x => exact rep_str.mpr rfl
theorem any_zip {k : List Key} : ∀ {kvs : List (List Key × D)} {vs : List V}, RepVs K θ H (kvs.map (·.2)) vs → (((kvs.map (·.1)).zip vs).any fun kv => decide (kv.1 = k)) = kvs.any fun kv => decide (kv.1 = k)
  | [], vs, h => by cases rep_nil h; rfl
  | p :: r, vs, h => by
    unfold List.map RepVs at h
    obtain ⟨v, r', rfl, h1, h2⟩ := h
    have := any_zip (k := k) h2
    simp only [List.map_cons, List.zip_cons_cons, List.any_cons, this]
theorem put_map {k : List Key} {d : D} {v : V} (rd : RepV K θ H d v) : ∀ {kvs : List (List Key × D)} {vs : List V}, RepVs K θ H (kvs.map (·.2)) vs →
    ∃ ws, ((kvs.map (·.1)).zip vs).map (fun kv => if kv.1 = k then (kv.1, v) else kv) = (((kvs.map fun kv => if kv.1 = k then (kv.1, d) else kv).map (·.1)).zip ws) ∧ RepVs K θ H ((kvs.map fun kv => if kv.1 = k then (kv.1, d) else kv).map (·.2)) ws
  | [], vs, h => by cases rep_nil h; exact ⟨[], rfl, .nil_iff⟩
  | p :: r, vs, h => by
    unfold List.map RepVs at h
    obtain ⟨u, r', rfl, h1, h2⟩ := h
    obtain ⟨ws, e, rr⟩ := put_map rd h2
    by_cases hk : p.1 = k
    · refine ⟨v :: ws, ?_, ?_⟩
      · simp only [List.map_cons, List.zip_cons_cons, if_pos hk]
        rw [← e]
      · simp only [List.map_cons, if_pos hk]
        exact .cons rd rr
    · refine ⟨u :: ws, ?_, ?_⟩
      · simp only [List.map_cons, List.zip_cons_cons, if_neg hk]
        rw [← e]
      · simp only [List.map_cons, if_neg hk]
        exact .cons h1 rr
theorem put_rep {k : List Key} {d : D} {v : V} (rd : RepV K θ H d v) {kvs : List (List Key × D)} {vs : List V} (h : RepVs K θ H (kvs.map (·.2)) vs) :
    ∃ ws, putK ((kvs.map (·.1)).zip vs) k v = (((putD kvs k d).map (·.1)).zip ws) ∧ RepVs K θ H ((putD kvs k d).map (·.2)) ws := by
  unfold putK putD
  rw [any_zip h]
  by_cases c : (kvs.any fun kv => decide (kv.1 = k)) = true
  · rw [if_pos c, if_pos c]
    exact put_map rd h
  · rw [if_neg c, if_neg c]
    refine ⟨vs ++ [v], ?_, ?_⟩
    · have hl : (kvs.map (·.1)).length = vs.length := by rw [List.length_map, ← h.length, List.length_map]
      rw [List.map_append, List.zip_append hl]
      rfl
    · rw [List.map_append]
      exact h.append (.cons rd .nil_iff)
end
def setDM : D → D → D → Sto → Option Sto
  | .ref n, .wt ks, v, st => match st[n]? with
    | some (.dT kvs) => match keysOf ks with
      | some k => if kvs.length < sizeLine then some (st.set n (.dT (putD kvs k v))) else none
      | none => none
    | _ => none
  | _, _, _, _ => none
section
variable {X : Cx} {TZ : Tabz} {F : Fx} {W : WX} {θ : List Addr} {H : Hp} {st s' : Sto} {σ : L2.St}
theorem set_DM (hu : X.A.units + 1 < cLine) {pins : List (Addr × Obj)} {s : Shared} {o i d : D} {x y v : V} {ov iv u : Value} {Q : Hp → Prop} (I : Inv X pins σ H s) (ro : RelV x ov) (ri : RelV y iv) (rv : RelV v u) (hR : Rel (gx X TZ) θ st H) (h1 : RepV X.K θ H o x) (h2 : RepV X.K θ H i y) (h3 : RepV X.K θ H d v)
    (e : setDM o i d st = some s') (q : ∀ H', Keep H H' → Rel (gx X TZ) θ s' H' → Q H') : wpAny (model X.prog X.w) X.A (setItem ov iv u) (fun _ s2 => ∃ H', Inv X pins σ H' s2 ∧ Q H') X.xe s := by
  unfold setDM at e
  split at e
  · rename_i n ks
    split at e
    · rename_i kvs hx
      split at e
      · rename_i k hk
        split at e
        · rename_i hl
          cases e
          obtain ⟨a, vs, ho, ht, e1, hh, r1⟩ := hR.atO hx
          obtain ⟨a', rfl, ht'⟩ := rep_ref.mp h1
          rw [ht] at ht'
          cases ht'
          obtain ⟨b, ws, rfl, eb, rb⟩ := rep_wt.mp h2
          rw [keysOf_some hk] at rb
          cases keys_repL rb
          cases hh
          cases (show ov = Value.ref a from ro)
          obtain ⟨ws2, ep, rp⟩ := put_rep (k := k) h3 r1
          have hl2 : ((kvs.map (·.1)).zip vs).length < sizeLine := by
            have := r1.length
            simp only [Ob.vals, List.length_map] at this
            rw [List.length_zip, List.length_map, ← this, Nat.min_self]
            exact hl
          refine d_setItem hu I (DPut.t e1 eb hl2) ri rv fun s2 I2 => ⟨_, I2, q _ (.mut e1 (.inr (.inr (.inl ⟨_, rfl⟩)))) ?_⟩
          rw [ep]
          exact hR.setO (o := .dT (putD kvs k d)) ht e1 (.inr (.inr (.inl ⟨_, rfl⟩))) rfl rp
        · cases e
      · cases e
    · cases e
  · cases e
def rSetD (X : Cx) (TZ : Tabz) : TSet := fun x y v H Q => ∃ (θ : List Addr) (st s' : Sto) (o i d : D), Rel (gx X TZ) θ st H ∧ RepV X.K θ H o x ∧ RepV X.K θ H i y ∧ RepV X.K θ H d v ∧ setDM o i d st = some s' ∧ ∀ H', Keep H H' → Rel (gx X TZ) θ s' H' → Q H'
theorem pset_DM (hu : X.A.units + 1 < cLine) : PSet X (rSetD X TZ) := fun pins s σ H x y v ov iv u Q I ro ri rv ⟨θ, st, s', o, i, d, hR, h1, h2, h3, e, q⟩ => set_DM hu I ro ri rv hR h1 h2 h3 e q
def tSD (o i : C) : T := fun d ρ s => match o ρ s with
  | .ok x s1 => match i ρ s1 with
    | .ok y s2 => (setDM x y d s2).map fun s3 => (ρ, s3)
    | _ => none
  | _ => none
theorem rg_subD {o i : Expr} {mo mi : C} {pos : Pos} (hu : X.A.units + 64 < cLine) (ho : RE X TZ F W o mo) (hi : RE X TZ F W i mi)
    (ha : ∀ v, assign (.Subscript o i pos) X.env v = (do
      let ov ← holding [v] (eval o X.env)
      let iv ← holding [v, ov] (eval i X.env)
      standAt pos
      holding [v, ov, iv] (setItem ov iv v)
      release [v, ov, iv] []) := by intro _; rfl) : RG X TZ F (.Subscript o i pos) (tSD mo mi) := by
  refine ⟨_, pg_sub ho hi (pset_DM (TZ := TZ) (by omega)) ha, fun θ st s' ρ ρ' σ H d v Q hR hE rp e q => ?_⟩
  unfold tSD at e
  split at e
  · rename_i x s1 e1
    split at e
    · rename_i y s2 e2
      obtain ⟨s3, e3, ez⟩ := Option.map_eq_some_iff.mp e
      cases ez
      refine ⟨θ, st, ρ, hR, hE, res_ok e1 fun θ1 v1 H1 p1 k1 R1 r1 => ⟨θ1, s1, ρ, R1, hE.step p1 k1, res_ok e2 fun θ2 v2 H2 p2 k2 R2 r2 => ?_⟩⟩
      have k12 := k1.trans k2
      exact ⟨θ2, s2, s', x, y, d, R2, r1.step p2 k2, r2, rp.step (p1.trans p2) k12, e3, fun H3 k3 R3 => q θ2 σ H3 (p1.trans p2) (k12.trans k3) R3 ((hE.step (p1.trans p2) k12).step (List.prefix_refl _) k3)⟩
    · cases e
  · cases e
/-- {} -/
def cDctT : C := fun _ st => .ok (.ref st.length) (st ++ [.dT []])
theorem re_dctT {pos : Pos} : RE X TZ F W (.Dict [] [] pos) cDctT := by
  refine PE.imp pe_dnewT fun σ H Q ⟨θ, st, ρ, hR, hE, q⟩ => fun p hp => ?_
  exact q (θ ++ [p]) (.ref p) _ (List.prefix_append _ _) (Keep.same (same_new hp)) (hR.pushO (o := .dT []) (vs := []) hp rfl .nil_iff) (rep_ref.mpr ⟨p, rfl, by rw [← hR.len]; simp⟩)
/-- list(d): its keys -/
def listDM (ds : List D) (st : Sto) : Option (D × Sto) := match ds with
  | [.ref n] => match st[n]? with
    | some (.dT kvs) => some (.ref st.length, st ++ [.lst (kvs.map fun kv => .wt (kv.1.map keyD))])
    | _ => none
  | _ => none
theorem keys_list {K : PySem.W.Frag} : ∀ {kvs : List (List Key × D)} {vs : List V} {bs : List Addr}, RepVs K θ H (kvs.map (·.2)) vs → IsKeys H ((kvs.map (·.1)).zip vs) bs → RepVs K θ H (kvs.map fun kv => .wt (kv.1.map keyD)) (bs.map V.ref)
  | [], vs, bs, r, h => by
    cases h
    exact .nil_iff
  | p :: kr, vs, bs, r, h => by
    unfold List.map RepVs at r
    obtain ⟨v, r', rfl, r1, r2⟩ := r
    cases h with
    | cons h1 h2 => exact .cons (rep_wt.mpr ⟨_, _, rfl, h1, keys_repR⟩) (keys_list r2 h2)
theorem call_listDM (hc : X.calm = true) : CallR X (.type "list") (rC (gx X TZ) listDM) := by
  intro pins s σ H xs us Q I r ⟨θ, st, ds, hR, rr, d, s', e, q⟩
  unfold listDM at e
  split at e
  · rename_i n
    split at e
    · rename_i kvs hx
      cases e
      obtain ⟨v, rfl, rv⟩ := rep_list1 rr
      obtain ⟨a, vs, ho, ht, e1, hh, r1⟩ := hR.atO hx
      obtain ⟨a', rfl, ht'⟩ := rep_ref.mp rv
      rw [ht] at ht'
      cases ht'
      cases hh
      exact call_list_dT hc pins s σ H _ us Q I r ⟨a, _, rfl, .inl e1, fun p bs hp hk => fin_lst hR (keys_list r1 hk) hp q⟩
    · cases e
  · cases e
/-- tuple(xs) of a list, to be a key -/
def tupleWM (ds : List D) (st : Sto) : Option (D × Sto) := match ds with
  | [.ref n] => match st[n]? with
    | some (.lst xs) => some (.wt xs, st)
    | _ => none
  | _ => none
theorem call_tupleWM : CallR X (.type "tuple") (rC (gx X TZ) tupleWM) := by
  intro pins s σ H xs us Q I r ⟨θ, st, ds, hR, rr, d, s', e, q⟩
  unfold tupleWM at e
  split at e
  · rename_i n
    split at e
    · rename_i ys hx
      cases e
      obtain ⟨v, rfl, rv⟩ := rep_list1 rr
      obtain ⟨a, vs, rfl, _, e1, r1⟩ := hR.lstOf hx rv
      refine call_tuple_of pins s σ H _ us Q I r ⟨a, vs, rfl, .inl ⟨SqL.of e1, fun l hl => ?_⟩⟩
      have k := Keep.same (same_new (o := .tup vs) hl)
      exact q θ (.ref l) _ (List.prefix_refl _) k (hR.new hl) (rep_wt.mpr ⟨l, vs, rfl, upd_same, r1.step (List.prefix_refl _) k⟩)
    · cases e
  · cases e
end
end Rg

/-! comprehensions with two clauses -/
namespace Rg
open PySem PySem.Spec PyProof.Rows L2 Fs
noncomputable def loopC2 (ok : Sto → Prop) (n0 : Nat) (tgt : T) (mt : B) (mi1 : MI) (own1 : List Nat) (tgt1 : T) (mt1 : B) (me : C) (ρ0 : En) : List D → List D → Sto → Option Sto
  | [], acc, st => haveI := Classical.propDecidable; if ok st ∧ st[n0]? = some (.lst acc) then some st else none
  | d :: ds, acc, st => haveI := Classical.propDecidable; if ok st then
      match tgt d ρ0 st with
      | none => none
      | some (ρ1, s1) => match mt ρ1 s1 with
        | .ok b s2 => if b = true then
            match mi1 ρ1 s2 with
            | .ok wk s3 => match loopC (okW wk.lk) n0 tgt1 mt1 me (wipeM ρ1 own1) wk.items acc s3 with
              | some s4 => match s4[n0]? with
                | some (.lst acc') => loopC2 ok n0 tgt mt mi1 own1 tgt1 mt1 me ρ0 ds acc' s4
                | _ => none
              | none => none
            | _ => none
          else loopC2 ok n0 tgt mt mi1 own1 tgt1 mt1 me ρ0 ds acc s2
        | _ => none
    else none
noncomputable def cLc2 (mi : MI) (own : List Nat) (tgt : T) (mt : B) (mi1 : MI) (own1 : List Nat) (tgt1 : T) (mt1 : B) (me : C) : C := fun ρ st => (mi ρ st).bind fun wk s =>
  match loopC2 (okW wk.lk) s.length tgt mt mi1 own1 tgt1 mt1 me (wipeM ρ own) wk.items [] (s ++ [.lst []]) with
  | some s' => .ok (.ref s.length) s'
  | none => .no
section
variable {X : Cx} {TZ : Tabz} {F : Fx} {W : WX} {scope : Scope} {own own1 : List Nat}
/-- what the second clause walks -/
def RIw (X : Cx) (TZ : Tabz) (scope : Scope) (tg iter : Expr) (m : MI) : Prop := ∃ wi : TI, (∀ s H C cl fp, PI (BlkX X scope s H C cl fp) tg iter wi) ∧ ∀ (σ : L2.St) (H : Hp) (θ : List Addr) (st : Sto) (ρ : En) (R : It → Hp → Prop), Rel (gx X TZ) θ st H → EnvR (gx X TZ) (Fe X) θ H ρ σ →
    Res (gx X TZ) (fun θ' H' wk J => ItOk (gx X TZ) θ' H' wk J) We σ θ H (m ρ st) R → wi σ H R
def wiSeq (X : Cx) (TZ : Tabz) (F : Fx) (W : WX) (m : C) : TI := fun σ H R => iList X.K (tM (gx X TZ) F W (rV (gx X TZ)) m) σ H R ∨ (iTup X.K (tM (gx X TZ) F W (rV (gx X TZ)) m) σ H R ∨ iStr (tM (gx X TZ) F W (rV (gx X TZ)) m) σ H R)
theorem wiSeq_k {m : C} {σ : L2.St} {H : Hp} {θ : List Addr} {st : Sto} {ρ : En} {R : It → Hp → Prop} (hR : Rel (gx X TZ) θ st H) (hE : EnvR (gx X TZ) F θ H ρ σ) (q : Res (gx X TZ) (fun θ' H' wk J => ItOk (gx X TZ) θ' H' wk J) W σ θ H (wSeq m ρ st) R) : wiSeq X TZ F W m σ H R := by
  have go : ∀ {Q : VK}, (∀ (θ1 : List Addr) (d : D) (s1 : Sto) (v : V) (H1 : Hp), θ <+: θ1 → Keep H H1 → Rel (gx X TZ) θ1 s1 H1 → RepV X.K θ1 H1 d v → Res (gx X TZ) (fun θ' H' wk J => ItOk (gx X TZ) θ' H' wk J) W σ θ1 H1 (lift (walkM d s1)) R → Q v H1) →
      tM (gx X TZ) F W (rV (gx X TZ)) m σ H Q := fun k => ⟨θ, st, ρ, hR, hE, q.seq fun θ1 d s1 v H1 p1 k1 R1 r1 h1 => k θ1 d s1 v H1 p1 k1 R1 r1 h1⟩
  have q0 := q
  unfold wSeq at q0
  cases e0 : m ρ st with
  | no => rw [e0] at q0; exact q0.elim
  | ex c d s =>
    refine .inl ⟨θ, st, ρ, hR, hE, ?_⟩
    rw [e0] at q0 ⊢
    exact q0
  | ok d s =>
    cases d with
    | tup xs =>
      refine .inr (.inl ⟨θ, st, ρ, hR, hE, res_ok e0 fun θ1 v H1 p1 k1 R1 r1 => ?_⟩)
      rw [e0] at q0
      obtain ⟨a, vs, rfl, s1, r1⟩ := rep_tupE r1
      exact ⟨a, rfl, ⟨vs, s1⟩, q0 θ1 _ H1 p1 k1 R1 (itok_tup s1 r1)⟩
    | ref n =>
      refine .inl ⟨θ, st, ρ, hR, hE, res_ok e0 fun θ1 v H1 p1 k1 R1 r1 => ?_⟩
      rw [e0] at q0
      have q1 : Res (gx X TZ) (fun θ' H' wk J => ItOk (gx X TZ) θ' H' wk J) W σ θ H (lift (walkM (.ref n) s)) R := q0
      unfold walkM at q1
      simp only at q1
      split at q1
      · rename_i xs hx
        obtain ⟨a, vs, rfl, ha, e1, r2⟩ := R1.lstOf hx r1
        exact ⟨a, rfl, ⟨vs, SqL.of e1⟩, q1 θ1 _ H1 p1 k1 R1 (itok_list ha)⟩
      · exact q1.elim
    | str z =>
      refine .inr (.inr ⟨θ, st, ρ, hR, hE, res_ok e0 fun θ1 v H1 p1 k1 R1 r1 => ?_⟩)
      rw [e0] at q0
      cases rep_str.mp r1
      exact ⟨z, rfl, q0 θ1 _ H1 p1 k1 R1 itok_str⟩
    | non => rw [e0] at q0; exact q0.elim
    | bl b => rw [e0] at q0; exact q0.elim
    | int i => rw [e0] at q0; exact q0.elim
    | fl i => rw [e0] at q0; exact q0.elim
    | wt i => rw [e0] at q0; exact q0.elim
theorem riw_seq {tg e : Expr} {m : C} (h : ∀ s H C cl fp, RE (BlkX X scope s H C cl fp) TZ (Fe X) We e m) : RIw X TZ scope tg e (wSeq m) :=
  ⟨wiSeq X TZ (Fe X) We m, fun s H C cl fp => pi_or (pi_list (h s H C cl fp)) (pi_or (pi_tup (h s H C cl fp)) (pi_str (h s H C cl fp))), fun σ H θ st ρ R hR hE q => wiSeq_k hR hE q⟩
theorem lc2_core {mi mi1 : MI} {tgt tgt1 : T} {mt mt1 : B} {me : C} {wi wi1 : TI} {t t1 : TG} {σ : L2.St} {H : Hp} {Q : VK} {θ : List Addr} {st : Sto} {ρ : En}
    (kwi : ∀ (σ : L2.St) (H : Hp) (θ : List Addr) (st : Sto) (ρ : En) (R : It → Hp → Prop), Rel (gx X TZ) θ st H → EnvR (gx X TZ) F θ H ρ σ → Res (gx X TZ) (fun θ' H' wk J => ItOk (gx X TZ) θ' H' wk J) W σ θ H (mi ρ st) R → wi σ H R)
    (kg : ∀ (θ : List Addr) (st s' : Sto) (ρ ρ' : En) (σ : L2.St) (H : Hp) (d : D) (v : V) (Q : L2.St → Hp → Prop), Rel (gx X TZ) θ st H → EnvR (gx X TZ) (Fe X) θ H ρ σ → RepV X.K θ H d v → tgt d ρ st = some (ρ', s') →
      (∀ (θ' : List Addr) (σ' : L2.St) (H' : Hp), θ <+: θ' → Keep H H' → Rel (gx X TZ) θ' s' H' → EnvR (gx X TZ) (Fe X) θ' H' ρ' σ' → L2.wipe σ' own = L2.wipe σ own → Q σ' H') → t v σ H Q)
    (kwi1 : ∀ (σ : L2.St) (H : Hp) (θ : List Addr) (st : Sto) (ρ : En) (R : It → Hp → Prop), Rel (gx X TZ) θ st H → EnvR (gx X TZ) (Fe X) θ H ρ σ → Res (gx X TZ) (fun θ' H' wk J => ItOk (gx X TZ) θ' H' wk J) We σ θ H (mi1 ρ st) R → wi1 σ H R)
    (kg1 : ∀ (θ : List Addr) (st s' : Sto) (ρ ρ' : En) (σ : L2.St) (H : Hp) (d : D) (v : V) (Q : L2.St → Hp → Prop), Rel (gx X TZ) θ st H → EnvR (gx X TZ) (Fe X) θ H ρ σ → RepV X.K θ H d v → tgt1 d ρ st = some (ρ', s') →
      (∀ (θ' : List Addr) (σ' : L2.St) (H' : Hp), θ <+: θ' → Keep H H' → Rel (gx X TZ) θ' s' H' → EnvR (gx X TZ) (Fe X) θ' H' ρ' σ' → L2.wipe σ' own1 = L2.wipe σ own1 → Q σ' H') → t1 v σ H Q)
    (hR : Rel (gx X TZ) θ st H) (hE : EnvR (gx X TZ) F θ H ρ σ) (q : Res (gx X TZ) (rV (gx X TZ)) W σ θ H (cLc2 mi own tgt mt mi1 own1 tgt1 mt1 me ρ st) Q) :
    tLc2 wi t (tM (gx X TZ) (Fe X) We rB mt) wi1 t1 (tM (gx X TZ) (Fe X) We rB mt1) (tM (gx X TZ) (Fe X) We (rV (gx X TZ)) me) own own1 σ H Q := by
  refine kwi σ H θ st ρ _ hR hE (q.seq fun θ1 wk s1 J H1 p1 k1 R1 r1 h1 => fun Dn hD => ?_)
  cases el : loopC2 (okW wk.lk) s1.length tgt mt mi1 own1 tgt1 mt1 me (wipeM ρ own) wk.items [] (s1 ++ [.lst []]) with
  | none => rw [el] at h1; exact h1.elim
  | some sF =>
    rw [el] at h1
    have h1 : ∀ (θ' : List Addr) (b : V) (H' : Hp), θ1 <+: θ' → Keep H1 H' → Rel (gx X TZ) θ' sF H' → RepV X.K θ' H' (.ref s1.length) b → Q b H' := h1
    have kD := Keep.same (same_new (o := .lst []) hD)
    have RD : Rel (gx X TZ) (θ1 ++ [Dn]) (s1 ++ [.lst []]) (upd H1 Dn (.lst [])) := R1.push hD .nil_iff
    have pD : θ1 <+: θ1 ++ [Dn] := List.prefix_append _ _
    have eD : (θ1 ++ [Dn])[s1.length]? = some Dn := by rw [← R1.len]; simp
    refine ⟨fun i m H' => m = wk.items.length - i ∧ i ≤ wk.items.length ∧ ∃ (θ' : List Addr) (st' : Sto) (acc : List D), θ1 ++ [Dn] <+: θ' ∧ Keep (upd H1 Dn (.lst [])) H' ∧ Rel (gx X TZ) θ' st' H' ∧ EnvR (gx X TZ) (Fe X) θ' H' (wipeM ρ own) (L2.wipe σ own) ∧ loopC2 (okW wk.lk) s1.length tgt mt mi1 own1 tgt1 mt1 me (wipeM ρ own) (wk.items.drop i) acc st' = some sF,
      ⟨_, rfl, Nat.zero_le _, θ1 ++ [Dn], _, [], List.prefix_refl _, Keep.refl _, RD, ((hE.step p1 k1).step pD kD).wipe rfl rfl own, el⟩, ?_⟩
    rintro i m H2 ⟨rfl, hi, θ2, st2, acc, p2, k2, R2, E2, q2⟩
    have k12 : Keep H1 H2 := kD.trans k2
    by_cases hlt : i < wk.items.length
    · rw [List.drop_eq_getElem_cons hlt] at q2
      unfold loopC2 at q2
      split at q2
      · rename_i hok
        have it := (r1 θ2 st2 H2 (pD.trans p2) k12 R2 hok).2 i _ (List.getElem?_eq_getElem hlt)
        refine .inr ⟨it.1, fun H' => ∃ (θ' : List Addr) (st' : Sto) (acc : List D), θ1 ++ [Dn] <+: θ' ∧ Keep (upd H1 Dn (.lst [])) H' ∧ Rel (gx X TZ) θ' st' H' ∧ EnvR (gx X TZ) (Fe X) θ' H' (wipeM ρ own) (L2.wipe σ own) ∧ loopC2 (okW wk.lk) s1.length tgt mt mi1 own1 tgt1 mt1 me (wipeM ρ own) (wk.items.drop (i + 1)) acc st' = some sF,
          fun H' z => ⟨_, by omega, rfl, hlt, z⟩, fun x H3 y => ?_⟩
        obtain ⟨k3, R3, r3⟩ := it.2 x H3 y
        split at q2
        · cases q2
        · rename_i ρ3 s3 e3
          refine kg θ2 st2 s3 (wipeM ρ own) ρ3 (L2.wipe σ own) H3 _ x _ R3 (E2.step (List.prefix_refl _) k3) r3 e3 fun θ4 σ4 H4 p4 k4 R4 E4 w4 => ⟨by rw [w4, wipe_wipe], ?_⟩
          split at q2
          · rename_i b s4 e4
            refine ⟨θ4, s3, ρ3, R4, E4, res_ok e4 fun θ5 b' H5 p5 k5 R5 r5 => ?_⟩
            cases r5
            have k35 := (k3.trans k4).trans k5
            have E5 := E2.step (p4.trans p5) k35
            cases b with
            | false =>
              rw [if_neg (by simp)] at q2 ⊢
              exact ⟨θ5, s4, acc, p2.trans (p4.trans p5), k2.trans k35, R5, E5, q2⟩
            | true =>
              rw [if_pos rfl] at q2 ⊢
              split at q2
              · rename_i wk1 s6 e6
                have E45 := E4.step p5 k5
                refine kwi1 σ4 H5 θ5 s4 ρ3 _ R5 E45 (res_ok e6 fun θ6 J1 H6 p6 k6 R6 r6 => ?_)
                split at q2
                · rename_i s7 e7
                  split at q2
                  · rename_i acc' hacc'
                    have p26 := p2.trans (p4.trans (p5.trans p6))
                    have k36 := k35.trans k6
                    have E6 := E5.step p6 k6
                    have EI := (E45.step p6 k6).wipe (F' := Fe X) rfl rfl own1
                    refine ⟨fun j m H' => m = wk1.items.length - j ∧ j ≤ wk1.items.length ∧ ∃ (θ' : List Addr) (st' : Sto) (ac : List D), θ6 <+: θ' ∧ Keep H6 H' ∧ Rel (gx X TZ) θ' st' H' ∧ EnvR (gx X TZ) (Fe X) θ' H' (wipeM ρ3 own1) (L2.wipe σ4 own1) ∧ loopC (okW wk1.lk) s1.length tgt1 mt1 me (wipeM ρ3 own1) (wk1.items.drop j) ac st' = some s7,
                      ⟨_, rfl, Nat.zero_le _, θ6, s6, acc, List.prefix_refl _, Keep.refl _, R6, EI, e7⟩, ?_⟩
                    rintro j m H7 ⟨rfl, hj, θ7, st7, ac, p7, k7, R7, E7, q7⟩
                    by_cases hjl : j < wk1.items.length
                    · rw [List.drop_eq_getElem_cons hjl] at q7
                      unfold loopC at q7
                      split at q7
                      · rename_i hok1
                        have it1 := (r6 θ7 st7 H7 p7 k7 R7 hok1).2 j _ (List.getElem?_eq_getElem hjl)
                        refine .inr ⟨it1.1, fun H' => ∃ (θ' : List Addr) (st' : Sto) (ac : List D), θ6 <+: θ' ∧ Keep H6 H' ∧ Rel (gx X TZ) θ' st' H' ∧ EnvR (gx X TZ) (Fe X) θ' H' (wipeM ρ3 own1) (L2.wipe σ4 own1) ∧ loopC (okW wk1.lk) s1.length tgt1 mt1 me (wipeM ρ3 own1) (wk1.items.drop (j + 1)) ac st' = some s7,
                          fun H' z => ⟨_, by omega, rfl, hjl, z⟩, fun x H8 y => ?_⟩
                        obtain ⟨k8, R8, r8⟩ := it1.2 x H8 y
                        split at q7
                        · cases q7
                        · rename_i ρ8 s8 e8
                          refine kg1 θ7 st7 s8 (wipeM ρ3 own1) ρ8 (L2.wipe σ4 own1) H8 _ x _ R8 (E7.step (List.prefix_refl _) k8) r8 e8 fun θ9 σ9 H9 p9 k9 R9 E9 w9 => ⟨by rw [w9, wipe_wipe], ?_⟩
                          split at q7
                          · rename_i b1 s9 e9
                            refine ⟨θ9, s8, ρ8, R9, E9, res_ok e9 fun θa b' Ha pa ka Ra ra => ?_⟩
                            cases ra
                            have k8a := (k8.trans k9).trans ka
                            have Ea := E7.step (p9.trans pa) k8a
                            cases b1 with
                            | false =>
                              rw [if_neg (by simp)] at q7 ⊢
                              exact ⟨θa, s9, ac, p7.trans (p9.trans pa), k7.trans k8a, Ra, Ea, q7⟩
                            | true =>
                              rw [if_pos rfl] at q7 ⊢
                              split at q7
                              · rename_i yb sb eb
                                refine ⟨θa, s9, ρ8, Ra, E9.step pa ka, res_ok eb fun θb vb Hb pb kb Rb rb => ?_⟩
                                split at q7
                                · rename_i hacc
                                  obtain ⟨hacc, hsz⟩ := hacc
                                  have p7b := p7.trans (p9.trans (pa.trans pb))
                                  have eDb := pre_get (p26.trans p7b) eD
                                  obtain ⟨vs, e10, r10⟩ := Rb.lst_at hacc eDb
                                  refine ⟨vs, e10, by rw [← r10.length]; exact hsz, ?_⟩
                                  have kk := Keep.list (o := .lst (vs ++ [vb])) e10
                                  exact ⟨θb, _, _, p7b, k7.trans ((k8a.trans kb).trans kk), Rb.set hacc eDb e10 (r10.append (.cons rb .nil_iff)), (Ea.step pb kb).step (List.prefix_refl _) kk, q7⟩
                                · cases q7
                              · cases q7
                          · cases q7
                      · cases q7
                    · have he : j = wk1.items.length := by omega
                      rw [List.drop_eq_nil_of_le (by omega)] at q7
                      unfold loopC at q7
                      split at q7
                      · rename_i hok1
                        cases q7
                        refine .inl ⟨(r6 θ7 _ H7 p7 k7 R7 hok1.1).1 j he, ?_⟩
                        exact ⟨θ7, _, acc', p26.trans p7, k2.trans (k36.trans k7), R7, E6.step p7 k7, q2⟩
                      · cases q7
                  · cases q2
                · cases q2
              · cases q2
          · cases q2
      · cases q2
    · have he : i = wk.items.length := by omega
      rw [List.drop_eq_nil_of_le (by omega)] at q2
      unfold loopC2 at q2
      split at q2
      · rename_i hok
        cases q2
        refine .inl ⟨(r1 θ2 _ H2 (pD.trans p2) k12 R2 hok.1).1 i he, ?_⟩
        exact h1 θ2 (.ref Dn) H2 (pD.trans p2) k12 R2 (rep_ref.mpr ⟨Dn, rfl, pre_get p2 eD⟩)
      · cases q2
theorem re_lc2 {elt tg iter tg1 iter1 : Expr} {ifs ifs1 : List Expr} {ownS : List (Str × Nat)} {pos : Pos} {mi mi1 : MI} {tgt tgt1 : T} {mt mt1 : B} {me : C} (hc : X.calm = true) (hN : X.N.Nodup) (hi : RI X TZ F W tg iter mi) (ok : BlkOk X.N X.env.scope scope ownS) (hv : ∀ i ∈ own1, i ∈ ownS.map (·.2))
    (hg : RGw X TZ scope (ownS.map (·.2)) tg tgt) (ht : RTs X TZ scope ifs mt) (hi1 : RIw X TZ scope tg1 iter1 mi1) (hg1 : RGw X TZ scope own1 tg1 tgt1) (ht1 : RTs X TZ scope ifs1 mt1) (he : ∀ s H C cl fp, RE (BlkX X scope s H C cl fp) TZ (Fe X) We elt me) (hs : ∀ x, foldedSetIterable iter X.env x = pure x := by intro _; rfl)
    (hs1 : ∀ (env : Env) (x : Value), foldedSetIterable iter1 env x = pure x := by intros; rfl) :
    RE X TZ F W (.ListComp elt [⟨tg, iter, ifs, 0⟩, ⟨tg1, iter1, ifs1, 0⟩] scope pos) (cLc2 mi (ownS.map (·.2)) tgt mt mi1 own1 tgt1 mt1 me) := by
  obtain ⟨wi, hwi, kwi⟩ := hi.ex
  obtain ⟨t, hgt, kg⟩ := hg
  obtain ⟨wi1, hwi1, kwi1⟩ := hi1
  obtain ⟨t1, hgt1, kg1⟩ := hg1
  exact PE.imp (pe_lc2 (te := tM (gx X TZ) (Fe X) We (rV (gx X TZ)) me) hc hN hwi ok hv hgt ht hwi1 hgt1 ht1 he hs hs1) fun σ H Q ⟨θ, st, ρ, hR, hE, q⟩ => lc2_core kwi kg kwi1 kg1 hR hE q
end
end Rg

/-! min of a tuple of numbers -/
namespace Rg
open PySem PySem.Spec PyProof.Rows L2 Fs
def min1XM (ds : List D) (st : Sto) : Option (D × Sto) := match ds with
  | [.tup xs] => match intsOf xs with
    | some (n :: ns) => some (.int (ns.foldl min n), st)
    | _ => none
  | _ => min1M ds st
theorem reads_ints {h : Heap} : ∀ {ns : List Int} {us : List Value}, Vals (ns.map V.int) us → PySem.ReadsAll h us (ns.map PyData.int) []
  | [], us, r => by cases r; exact .nil
  | n :: ns, us, r => by
    cases r with
    | cons h1 h2 =>
      obtain ⟨t, rfl⟩ := h1
      exact .cons (as := []) (bs := []) (.int n t) (reads_ints h2)
theorem depth_ints : ∀ ns : List Int, PyData.depthAll (ns.map PyData.int) = 0
  | [] => by simp [PyData.depthAll]
  | n :: ns => by simp [PyData.depthAll, PyData.depth, depth_ints ns]
section
variable {X : Cx} {TZ : Tabz}
theorem call_min1XM (hc : X.calm = true) (hu : X.A.units + 64 < cLine) : CallR X (.builtin "min") (rC (gx X TZ) min1XM) := by
  intro pins s σ H xs us Q I r ⟨θ, st, ds, hR, rr, d, s', e, q⟩
  unfold min1XM at e
  split at e
  · split at e
    · rename_i n ns hy
      cases e
      obtain ⟨v, rfl, rv⟩ := rep_list1 rr
      obtain ⟨a, vs, rfl, s1, r1⟩ := rep_tup.mp rv
      rw [intsOf_some hy] at r1
      cases RepVs.ints.mp r1
      obtain ⟨u, rfl, rx⟩ := Vals.one r
      cases rx
      obtain ⟨its, r2, ht, z⟩ := I.tuple s1.sq
      have r3 : PySem.ReadsAll s.heap its.toArray.toList (PyData.int n :: ns.map PyData.int) [] := by
        have := reads_ints (h := s.heap) r2
        simpa using this
      have ha : PySem.W.AlikeAll (PyData.int n :: ns.map PyData.int) := by
        refine ⟨fun x hx y hy => ?_, fun x hx => ?_⟩
        · obtain ⟨i, _, rfl⟩ := List.mem_map.mp (show x ∈ (n :: ns).map PyData.int from hx)
          obtain ⟨j, _, rfl⟩ := List.mem_map.mp (show y ∈ (n :: ns).map PyData.int from hy)
          rfl
        · obtain ⟨i, _, rfl⟩ := List.mem_map.mp (show x ∈ (n :: ns).map PyData.int from hx)
          exact fun z => by cases z
      have hd : PyData.depthAll (PyData.int n :: ns.map PyData.int) = 0 := depth_ints (n :: ns)
      refine PySem.W.min_tuple_data (I.ok.hd hc) ht r3 ha (by rw [hd]; omega) fun i v h' tk bs hi r hk => ?_
      rw [PySem.W.minD_ints] at r
      cases r with
      | int k t => exact ⟨.int _, H, I.kept (t' := tk) hk, ⟨t, rfl⟩, q θ _ H (List.prefix_refl _) (Keep.refl _) hR (rep_int.mpr rfl)⟩
    · cases e
  · exact call_min1M hc pins s σ H xs us Q I r ⟨θ, st, ds, hR, rr, d, s', e, q⟩
end
end Rg

/-! any of a tuple of numbers -/
namespace Rg
open PySem PySem.Spec PyProof.Rows L2 Fs
def anyXM (ds : List D) (st : Sto) : Option (D × Sto) := match ds with
  | [.tup xs] => match intsOf xs with
    | some ns => some (.bl (ns.any fun n => n != 0), st)
    | _ => none
  | _ => anyM ds st
theorem plain_ints : ∀ ns : List Int, PyData.plainAll (ns.map PyData.int) = true
  | [] => by simp [PyData.plainAll]
  | n :: ns => by simp [PyData.plainAll, PyData.plain, plain_ints ns]
section
variable {X : Cx} {TZ : Tabz}
theorem call_anyXM (hc : X.calm = true) : CallR X (.builtin "any") (rC (gx X TZ) anyXM) := by
  intro pins s σ H xs us Q I r ⟨θ, st, ds, hR, rr, d, s', e, q⟩
  unfold anyXM at e
  split at e
  · split at e
    · rename_i ns hy
      cases e
      obtain ⟨v, rfl, rv⟩ := rep_list1 rr
      obtain ⟨a, vs, rfl, s1, r1⟩ := rep_tup.mp rv
      rw [intsOf_some hy] at r1
      cases RepVs.ints.mp r1
      obtain ⟨u, rfl, rx⟩ := Vals.one r
      cases rx
      obtain ⟨its, r2, ht, z⟩ := I.tuple s1.sq
      have r3 : PySem.ReadsAll s.heap its.toArray.toList (ns.map PyData.int) [] := by
        have := reads_ints (h := s.heap) r2
        simpa using this
      refine PySem.W.any_tuple_data (I.ok.hd hc) ht r3 (plain_ints ns) (fun x hx => by
        obtain ⟨i, _, rfl⟩ := List.mem_map.mp hx
        trivial) fun h' tk hk => ?_
      rw [List.any_map]
      exact ⟨.bl _, H, I.kept (t' := tk) hk, rfl, q θ _ H (List.prefix_refl _) (Keep.refl _) hR (rep_bl.mpr rfl)⟩
    · cases e
  · exact call_anyM hc pins s σ H xs us Q I r ⟨θ, st, ds, hR, rr, d, s', e, q⟩
end
end Rg

/-! range(i, j, -1) -/
namespace Rg
open PySem PySem.Spec PyProof.Rows L2 Fs
def downL (i : Int) (n : Nat) : List D := (List.range n).map fun t => .int (i + (t : Nat) * (-1))
def rangeM3 (ds : List D) (st : Sto) : Option (Wk × Sto) := match ds with
  | [.int i, .int j, .int k] => if k = -1 then (if (in62 i && in62 j) = true then some (⟨downL i (i - j).toNat, []⟩, st) else none) else none
  | _ => none
section
variable {X : Cx} {TZ : Tabz} {F : Fx} {W : WX}
theorem itok_down {G : Gx} {θ : List Addr} {H : Hp} {lo : Int} {n : Nat} : ItOk G θ H ⟨downL lo n, []⟩ (Itc lo (-1) n) := by
  intro θ2 s2 H2 p k R2 ok
  refine ⟨fun i hi => ?_, fun i d hd => ?_⟩
  · have hi : i = (downL lo n).length := hi
    unfold downL at hi
    rw [List.length_map, List.length_range] at hi
    exact Nat.le_of_eq hi.symm
  · have hd : (downL lo n)[i]? = some d := hd
    unfold downL at hd
    rw [List.getElem?_map] at hd
    have hl : i < n := by
      by_cases z : i < n
      · exact z
      · rw [List.getElem?_eq_none (by simp; omega)] at hd
        cases hd
    rw [List.getElem?_range hl] at hd
    cases hd
    refine ⟨hl, fun x H' y => ?_⟩
    obtain ⟨eH, rfl⟩ := y
    subst eH
    exact ⟨Keep.refl _, R2, rep_int.mpr rfl⟩
theorem ri_range3 {tg a b c : Expr} {r : AL} {p pos : Pos} (hg : Gl X "range") (hm : X.mg "range" = none) (ha : RA X TZ F W [a, b, c] r) (hs : starEach [a, b, c] X.env = (false, eval a X.env) :: starEach [b, c] X.env := by rfl) (hpl : (backTo pos (starEach [b, c] X.env)).any (·.1) = false := by rfl) : RI X TZ F W tg (.Call (.Name "range" p) [a, b, c] [] pos) (wArg rangeM3 r) := by
  refine ri_arg (pi_range3 hg hm ha hs hpl) ha fun σ H R ⟨θ, st, ρ, hR, hE, q⟩ => ?_
  refine tM_mono ⟨θ, st, ρ, hR, hE, q⟩ fun vs H1 ⟨θ1, s1, ds, R1, r1, h1⟩ => ?_
  obtain ⟨wk, s2, ew, q2⟩ := res_liftI h1
  unfold rangeM3 at ew
  split at ew
  · split at ew
    · split at ew
      · rename_i i j k hk hj
        cases ew
        subst hk
        obtain ⟨v, w, u, rfl, rv, rw2, ru⟩ := rep_list3 r1
        cases rep_int.mp rv
        cases rep_int.mp rw2
        cases rep_int.mp ru
        rw [Bool.and_eq_true] at hj
        obtain ⟨h1, h2⟩ := in62_iff.mp hj.1
        obtain ⟨h3, h4⟩ := in62_iff.mp hj.2
        exact ⟨i, j, -1, _, rfl, RgC.neg h1 h2 h3 h4, q2 θ1 _ H1 (List.prefix_refl _) (Keep.refl _) R1 itok_down⟩
      · cases ew
    · cases ew
  · cases ew
end
end Rg

/-! sum of a tuple of numbers -/
namespace Rg
open PySem PySem.Spec PyProof.Rows L2 Fs
def sumXM (ds : List D) (st : Sto) : Option (D × Sto) := match ds with
  | [.tup xs] => match intsOf xs with
    | some ns => some (.int ns.sum, st)
    | _ => none
  | _ => sumM ds st
section
variable {prog : Program} {w : World} {A : Around} {E : Value → Shared → Prop} {s : Shared} {l : Addr} {its : List Value} {ns : List Int} {Q : Value → Shared → Prop}
theorem sum_rawT (hh : A.handled = none) (hl : s.heap.IsTuple l its.toArray) (hi : IntsAre its ns)
    (h : ∀ h' tk t', (∀ b o, s.heap.get? b = some o → h'.get? b = some o) → Q (.int ns.sum t') { s with heap := h', toks := tk }) : wpAny (model prog w) A (call (.builtin "sum") [.ref l]) Q E s := by
  obtain ⟨xs, e⟩ := hi.allInts.items
  have hn : numsOf (intItems xs).toList = ns := by rw [← e]; exact hi.numsOf
  rw [nums_intItems] at hn
  rw [e] at hl
  refine PySem.W.ktm_sumG hh hl fun h' tk t' hk => ?_
  have := h h' tk t' hk
  rw [preSum_eq, List.take_of_length_le (by simp), hn]; exact this
end
section
variable {X : Cx} {TZ : Tabz}
theorem call_sumXM (hc : X.calm = true) : CallR X (.builtin "sum") (rC (gx X TZ) sumXM) := by
  intro pins s σ H xs us Q I r ⟨θ, st, ds, hR, rr, d, s', e, q⟩
  unfold sumXM at e
  split at e
  · split at e
    · rename_i ns hy
      cases e
      obtain ⟨v, rfl, rv⟩ := rep_list1 rr
      obtain ⟨a, vs, rfl, s1, r1⟩ := rep_tup.mp rv
      rw [intsOf_some hy] at r1
      cases RepVs.ints.mp r1
      obtain ⟨u, rfl, rx⟩ := Vals.one r
      cases rx
      obtain ⟨its, r2, ht, z⟩ := I.tuple s1.sq
      exact sum_rawT (I.ok.hd hc) ht r2.ints fun h' tk t' hk => ⟨.int _, H, I.kept hk, ⟨_, rfl⟩, q θ _ H (List.prefix_refl _) (Keep.refl _) hR (rep_int.mpr rfl)⟩
    · cases e
  · exact call_sumM hc pins s σ H xs us Q I r ⟨θ, st, ds, hR, rr, d, s', e, q⟩
end
end Rg

/-! l.remove(k) of a list of numbers -/
namespace Rg
open PySem PySem.Spec PyProof.Rows L2 Fs
def removeM (xs ds : List D) : Option (D × List D) := match ds with
  | [.int k] => match intsOf xs with
    | some ns => if ns.idxOf k < ns.length then some (.non, (ns.eraseIdx (ns.idxOf k)).map D.int) else none
    | none => none
  | _ => none
theorem meth_remove {K : PySem.W.Frag} : MethOk K rRemI removeM := by
  intro θ H a xs ds ys vs ws d Q ha rx rd e q
  unfold removeM at e
  split at e
  · split at e
    · rename_i k _ ns hns
      split at e
      · rename_i hk
        cases e
        obtain ⟨w, rfl, rw2⟩ := rep_list1 rd
        cases rep_int.mp rw2
        rw [intsOf_some hns] at rx
        cases RepVs.ints.mp rx
        have hj : ns[ns.idxOf k]? = some k := by
          rw [List.getElem?_eq_getElem hk]
          exact congrArg some (List.getElem_idxOf hk)
        refine ⟨a, ns, k, ns.idxOf k, rfl, rfl, ha, hj, fun m hm z => ?_, q .non _ (rep_non.mpr rfl) (RepVs.ints.mpr rfl)⟩
        obtain ⟨hml, hme⟩ := List.getElem?_eq_some_iff.mp z
        have := List.not_of_lt_findIdx (p := (· == k)) (xs := ns) (i := m) hm
        simp [hme] at this
      · cases e
    · cases e
  · cases e
end Rg

/-! what the plain functions come to -/
namespace Rg
open PySem PySem.Spec PyProof.Rows L2 Fs
@[simp] theorem gcR_same {st : Sto} {d : D} : gcR st (.ok d st) = .ok d st := by
  unfold gcR gcD
  simp only [List.take_length, if_true]
  split
  · rfl
  · split
    · rename_i n _
      split
      · rename_i o ho
        split
        · rename_i hn
          have := (List.getElem?_eq_some_iff.mp ho).1
          omega
        · rfl
      · rfl
    · rfl
@[simp] theorem gcR_ex {st : Sto} {c : Str} {d : D} : gcR st (.ex c d st) = .ex c d st := by
  unfold gcR
  simp
@[simp] theorem gcR_no2 {st : Sto} : gcR st .no = .no := rfl
theorem gcR_drop {st g : Sto} {d : D} (h : d.under st.length = true) : gcR st (.ok d (st ++ g)) = .ok d st := by
  unfold gcR gcD
  simp [h]
theorem gcR_dropE {st g : Sto} {c : Str} {d : D} (h : d.under st.length = true) : gcR st (.ex c d (st ++ g)) = .ex c d st := by
  unfold gcR
  simp [h]
theorem gcR_at {st g : Sto} {o : Ob} {k : Nat} (h : g[k]? = some o) (ho : D.unders st.length o.vals = true) : gcR st (.ok (.ref (st.length + k)) (st ++ g)) = .ok (.ref st.length) (st ++ [o]) := by
  unfold gcR gcD
  have h1 : (st ++ g)[st.length + k]? = some o := by
    rw [List.getElem?_append_right (by omega)]
    simpa using h
  have h2 : ¬ st.length + k < st.length := by omega
  simp [D.under, h1, ho, h2]
theorem gcR_new {st : Sto} {o : Ob} (ho : D.unders st.length o.vals = true) : gcR st (.ok (.ref st.length) (st ++ [o])) = .ok (.ref st.length) (st ++ [o]) := gcR_at (k := 0) rfl ho
mutual
def D.flat : D → Bool
  | .ref _ => false
  | .tup xs => D.flats xs
  | .fl xs => D.flats xs
  | .wt xs => D.flats xs
  | _ => true
def D.flats : List D → Bool
  | [] => true
  | d :: ds => D.flat d && D.flats ds
end
mutual
theorem D.flat_under {n : Nat} : ∀ {d : D}, d.flat = true → d.under n = true
  | .non, _ => by unfold D.under; rfl
  | .bl _, _ => by unfold D.under; rfl
  | .int _, _ => by unfold D.under; rfl
  | .str _, _ => by unfold D.under; rfl
  | .ref _, h => by unfold D.flat at h; cases h
  | .tup xs, h => by unfold D.flat at h; unfold D.under; exact D.flats_unders h
  | .fl xs, h => by unfold D.flat at h; unfold D.under; exact D.flats_unders h
  | .wt xs, h => by unfold D.flat at h; unfold D.under; exact D.flats_unders h
theorem D.flats_unders {n : Nat} : ∀ {ds : List D}, D.flats ds = true → D.unders n ds = true
  | [], _ => by unfold D.unders; rfl
  | d :: ds, h => by
    unfold D.flats at h
    rw [Bool.and_eq_true] at h
    unfold D.unders
    rw [D.flat_under h.1, D.flats_unders h.2]
    rfl
end
@[simp] theorem okW_nil {st : Sto} : okW [] st := fun _ h => by cases h
theorem okW_one {n : Nat} {xs : List D} {st : Sto} : okW [(n, xs)] st ↔ st[n]? = some (.lst xs) := by
  unfold okW
  simp
section
variable {ok : Sto → Prop} {tgt : T} {body : S} {d : D} {ds : List D} {ρ ρ1 ρ2 : En} {st s1 s2 : Sto}
theorem loopF_nil (h : ok st) : loopF ok tgt body [] ρ st = .nx ρ st := by
  unfold loopF
  simp [h]
theorem loopF_nx (h : ok st) (ht : tgt d ρ st = some (ρ1, s1)) (hb : body ρ1 s1 = .nx ρ2 s2) : loopF ok tgt body (d :: ds) ρ st = loopF ok tgt body ds ρ2 s2 := by
  conv => lhs; unfold loopF
  simp [h, ht, hb]
theorem loopF_ct (h : ok st) (ht : tgt d ρ st = some (ρ1, s1)) (hb : body ρ1 s1 = .ct ρ2 s2) : loopF ok tgt body (d :: ds) ρ st = loopF ok tgt body ds ρ2 s2 := by
  conv => lhs; unfold loopF
  simp [h, ht, hb]
theorem loopF_bk (h : ok st) (ht : tgt d ρ st = some (ρ1, s1)) (hb : body ρ1 s1 = .bk ρ2 s2) : loopF ok tgt body (d :: ds) ρ st = .nx ρ2 s2 := by
  conv => lhs; unfold loopF
  simp [h, ht, hb]
theorem loopF_rt {x : D} (h : ok st) (ht : tgt d ρ st = some (ρ1, s1)) (hb : body ρ1 s1 = .rt x s2) : loopF ok tgt body (d :: ds) ρ st = .rt x s2 := by
  conv => lhs; unfold loopF
  simp [h, ht, hb]
theorem loopF_ex {c : Str} {x : D} (h : ok st) (ht : tgt d ρ st = some (ρ1, s1)) (hb : body ρ1 s1 = .ex c x ρ2 s2) : loopF ok tgt body (d :: ds) ρ st = .ex c x ρ2 s2 := by
  conv => lhs; unfold loopF
  simp [h, ht, hb]
/-- a loop that keeps J -/
theorem loopF_inv {J : Nat → En → Sto → Prop} (hok : ∀ k ρ s, J k ρ s → ok s) : ∀ (ds : List D) (k : Nat) (ρ : En) (st : Sto), J k ρ st →
    (∀ (i : Nat) (d : D) (ρ : En) (s : Sto), ds[i]? = some d → J (k + i) ρ s → ∃ ρ1 s1 ρ2 s2, tgt d ρ s = some (ρ1, s1) ∧ body ρ1 s1 = .nx ρ2 s2 ∧ J (k + i + 1) ρ2 s2) →
    ∃ ρ' s', loopF ok tgt body ds ρ st = .nx ρ' s' ∧ J (k + ds.length) ρ' s'
  | [], k, ρ, st, h, _ => ⟨ρ, st, loopF_nil (hok _ _ _ h), h⟩
  | d :: ds, k, ρ, st, h, hs => by
    obtain ⟨ρ1, s1, ρ2, s2, h1, h2, h3⟩ := hs 0 d ρ st rfl h
    obtain ⟨ρ', s', e, j⟩ := loopF_inv hok ds (k + 1) ρ2 s2 h3 fun i d' ρ s hi hj => by
      have e0 : k + (i + 1) = k + 1 + i := by omega
      have := hs (i + 1) d' ρ s (by simpa using hi) (by rw [e0]; exact hj)
      rw [e0] at this
      exact this
    refine ⟨ρ', s', (loopF_nx (hok _ _ _ h) h1 h2).trans e, ?_⟩
    rw [List.length_cons, show k + (ds.length + 1) = k + 1 + ds.length by omega]
    exact j
end
section
variable {ok : Sto → Prop} {n0 : Nat} {tgt : T} {mt : B} {me : C} {ρ0 : En}
/-- a comprehension that keeps J -/
theorem loopC_inv {J : Nat → List D → Sto → Prop} (hok : ∀ k acc s, J k acc s → ok s ∧ s[n0]? = some (.lst acc)) : ∀ (ds : List D) (k : Nat) (acc : List D) (st : Sto), J k acc st → acc.length + ds.length ≤ sizeLine →
    (∀ (i : Nat) (d : D) (acc : List D) (s : Sto), ds[i]? = some d → J (k + i) acc s → ∃ ρ1 s1 b s2, tgt d ρ0 s = some (ρ1, s1) ∧ mt ρ1 s1 = .ok b s2 ∧
      ((b = true ∧ ∃ x s3, me ρ1 s2 = .ok x s3 ∧ s3[n0]? = some (.lst acc) ∧ J (k + i + 1) (acc ++ [x]) (s3.set n0 (.lst (acc ++ [x])))) ∨ (b = false ∧ J (k + i + 1) acc s2))) →
    ∃ acc' s', loopC ok n0 tgt mt me ρ0 ds acc st = some s' ∧ J (k + ds.length) acc' s'
  | [], k, acc, st, h, _, _ => ⟨acc, st, by unfold loopC; simp [hok _ _ _ h], h⟩
  | d :: ds, k, acc, st, h, hl, hs => by
    have next : ∀ (i : Nat) (d' : D) (acc : List D) (s : Sto), ds[i]? = some d' → J (k + 1 + i) acc s → ∃ ρ1 s1 b s2, tgt d' ρ0 s = some (ρ1, s1) ∧ mt ρ1 s1 = .ok b s2 ∧
      ((b = true ∧ ∃ x s3, me ρ1 s2 = .ok x s3 ∧ s3[n0]? = some (.lst acc) ∧ J (k + 1 + i + 1) (acc ++ [x]) (s3.set n0 (.lst (acc ++ [x])))) ∨ (b = false ∧ J (k + 1 + i + 1) acc s2)) := fun i d' acc s hi hj => by
      have e0 : k + (i + 1) = k + 1 + i := by omega
      have := hs (i + 1) d' acc s (by simpa using hi) (by rw [e0]; exact hj)
      rw [e0] at this
      exact this
    obtain ⟨ρ1, s1, b, s2, h1, h2, h3⟩ := hs 0 d acc st rfl h
    simp only [List.length_cons] at hl
    rw [List.length_cons, show k + (ds.length + 1) = k + 1 + ds.length by omega]
    conv => enter [1, acc', 1, s', 1]; unfold loopC
    rcases h3 with ⟨rfl, x, s3, h4, h5, h6⟩ | ⟨rfl, h6⟩
    · obtain ⟨acc', s', e, j⟩ := loopC_inv hok ds (k + 1) (acc ++ [x]) _ h6 (by simp; omega) next
      refine ⟨acc', s', ?_, j⟩
      simp [hok _ _ _ h, h1, h2, h4, h5]
      exact ⟨by omega, e⟩
    · obtain ⟨acc', s', e, j⟩ := loopC_inv hok ds (k + 1) acc s2 h6 (by omega) next
      refine ⟨acc', s', ?_, j⟩
      simp [hok _ _ _ h, h1, h2]
      exact e
end
section
variable {mi : MI} {own : List Nat} {tgt : T} {mt : B} {me : C} {ρ : En} {st : Sto}
/-- a comprehension whose parts leave the store as it is, save that they may leave things behind -/
theorem cLc_pure {wk : Wk} {b : D → Bool} {g : D → D} (hmi : mi ρ st = .ok wk st) (hlk : okW wk.lk st) (hl : wk.items.length ≤ sizeLine)
    (h : ∀ d ∈ wk.items, ∀ (acc : List D) (j : Sto), ∃ ρ1, tgt d (wipeM ρ own) (st ++ .lst acc :: j) = some (ρ1, st ++ .lst acc :: j) ∧ mt ρ1 (st ++ .lst acc :: j) = .ok (b d) (st ++ .lst acc :: j) ∧
      (b d = true → ∃ j2, me ρ1 (st ++ .lst acc :: j) = .ok (g d) (st ++ .lst acc :: j2))) :
    ∃ j, cLc mi own tgt mt me ρ st = .ok (.ref st.length) (st ++ .lst ((wk.items.filter b).map g) :: j) := by
  obtain ⟨acc', s', e, j, rfl, rfl⟩ := loopC_inv (ok := okW wk.lk) (n0 := st.length) (tgt := tgt) (mt := mt) (me := me) (ρ0 := wipeM ρ own) (J := fun k acc s => ∃ j, s = st ++ .lst acc :: j ∧ acc = ((wk.items.take k).filter b).map g)
    (fun k acc s ⟨j, e, _⟩ => ⟨fun p hp => by
      subst e
      have z := hlk p hp
      rw [List.getElem?_append_left (List.getElem?_eq_some_iff.mp z).1]
      exact z, by subst e; simp⟩) wk.items 0 [] (st ++ [.lst []]) ⟨[], rfl, by simp⟩ (by simpa using hl) (fun i d acc s hi ⟨j, e, ea⟩ => by
      subst e
      have hm : d ∈ wk.items := List.mem_of_getElem? hi
      obtain ⟨ρ1, h1, h2, h3⟩ := h d hm acc j
      have ht : wk.items.take (0 + i + 1) = wk.items.take (0 + i) ++ [d] := by
        rw [List.take_succ, Nat.zero_add, hi]
        rfl
      refine ⟨ρ1, _, b d, _, h1, h2, ?_⟩
      cases hb : b d
      · refine .inr ⟨rfl, j, rfl, ?_⟩
        rw [ht, ea]
        simp [hb]
      · obtain ⟨j2, h4⟩ := h3 hb
        refine .inl ⟨rfl, _, _, h4, by simp, j2, by simp, ?_⟩
        rw [ht, ea]
        simp [hb])
  refine ⟨j, ?_⟩
  unfold cLc
  simp [hmi, R.bind, e]
end
section
variable {mi : MI} {own : List Nat} {tgt : T} {mt : B} {me : C} {ρ : En} {st : Sto}
theorem cLc_map {α : Type} {as : List α} {it g : α → D} {lk : List (Nat × List D)} (hmi : mi ρ st = .ok ⟨as.map it, lk⟩ st) (hlk : okW lk st) (hl : as.length ≤ sizeLine)
    (h : ∀ a ∈ as, ∀ (acc : List D) (j : Sto), ∃ ρ1, tgt (it a) (wipeM ρ own) (st ++ .lst acc :: j) = some (ρ1, st ++ .lst acc :: j) ∧ mt ρ1 (st ++ .lst acc :: j) = .ok true (st ++ .lst acc :: j) ∧
      ∃ j2, me ρ1 (st ++ .lst acc :: j) = .ok (g a) (st ++ .lst acc :: j2)) :
    ∃ j, cLc mi own tgt mt me ρ st = .ok (.ref st.length) (st ++ .lst (as.map g) :: j) := by
  obtain ⟨acc', s', e, j, rfl, rfl⟩ := loopC_inv (ok := okW lk) (n0 := st.length) (tgt := tgt) (mt := mt) (me := me) (ρ0 := wipeM ρ own) (J := fun k acc s => ∃ j, s = st ++ .lst acc :: j ∧ acc = (as.take k).map g)
    (fun k acc s ⟨j, e, _⟩ => ⟨fun p hp => by
      subst e
      have z := hlk p hp
      rw [List.getElem?_append_left (List.getElem?_eq_some_iff.mp z).1]
      exact z, by subst e; simp⟩) (as.map it) 0 [] (st ++ [.lst []]) ⟨[], rfl, by simp⟩ (by simpa using hl) (fun i d acc s hi ⟨j, e, ea⟩ => by
      subst e
      rw [List.getElem?_map] at hi
      obtain ⟨a, ha, rfl⟩ := Option.map_eq_some_iff.mp hi
      obtain ⟨ρ1, h1, h2, j2, h3⟩ := h a (List.mem_of_getElem? ha) acc j
      have ht : as.take (0 + i + 1) = as.take (0 + i) ++ [a] := by
        rw [List.take_succ, Nat.zero_add, ha]
        rfl
      refine ⟨ρ1, _, true, _, h1, h2, .inl ⟨rfl, _, _, h3, by simp, j2, by simp, ?_⟩⟩
      rw [ht, ea]
      simp)
  refine ⟨j, ?_⟩
  unfold cLc
  simp [hmi, R.bind, e, List.take_of_length_le]
end
theorem loopF_inv0 {ok : Sto → Prop} {tgt : T} {body : S} {J : Nat → En → Sto → Prop} (hok : ∀ k ρ s, J k ρ s → ok s) (ds : List D) (ρ : En) (st : Sto) (h : J 0 ρ st)
    (hs : ∀ (i : Nat) (d : D) (ρ : En) (s : Sto), ds[i]? = some d → J i ρ s → ∃ ρ1 s1 ρ2 s2, tgt d ρ s = some (ρ1, s1) ∧ body ρ1 s1 = .nx ρ2 s2 ∧ J (i + 1) ρ2 s2) :
    ∃ ρ' s', loopF ok tgt body ds ρ st = .nx ρ' s' ∧ J ds.length ρ' s' := by
  have z := loopF_inv (J := J) hok ds 0 ρ st h fun i d ρ s hi hj => by
    rw [Nat.zero_add] at hj ⊢
    exact hs i d ρ s hi hj
  rw [Nat.zero_add] at z
  exact z
theorem small_size {n : Nat} (h : n ≤ 1000) : n ≤ sizeLine := by
  rw [sizeLine_eq]
  omega
theorem small_size2 {n : Nat} (h : n ≤ 1000) : n < sizeLine := by
  rw [sizeLine_eq]
  omega
/-- a def whose body gives back a value without references -/
theorem run_ret {mask : List Bool} {n : Nat} {m : C} {fs : List Clo} {ds : List D} {st g : Sto} {d : D} (h : m (startM mask ds n) st = .ok d (st ++ g)) (hd : d.flat = true) (hl : ds.length = plains mask := by rfl) : runDef mask n (fun _ => sRet m) fs ds st = .ok d st := by
  unfold runDef sRet thenS
  rw [if_pos hl]
  simp only [h]
  exact gcR_drop (D.flat_under hd)
theorem run_b {mask : List Bool} {n : Nat} {m : S} {fs : List Clo} {ds : List D} {st g : Sto} {d : D} (h : m (startM mask ds n) st = .rt d (st ++ g)) (hd : d.flat = true) (hl : ds.length = plains mask := by rfl) : runDef mask n (fun _ => m) fs ds st = .ok d st := by
  unfold runDef
  rw [if_pos hl]
  simp only [h]
  exact gcR_drop (D.flat_under hd)
theorem eqM_int {i j : Int} {st : Sto} : eqM (.int i) (.int j) st = some (.bl (decide (i = j)), st) := by
  unfold eqM eqB toPy
  rfl
theorem neM_int {i j : Int} {st : Sto} : neM (.int i) (.int j) st = some (.bl (!decide (i = j)), st) := by
  unfold neM eqB toPy
  rfl
theorem eqM_self {st : Sto} {d : D} {p : PyData} (h : toPy st 20 d = some p) (hs : SeqAt.shaped p = true) : eqM d d st = some (.bl true, st) ∧ neM d d st = some (.bl false, st) := by
  have hc : p.canLay0 = true := by
    unfold SeqAt.shaped at hs
    rw [Bool.and_eq_true] at hs
    exact hs.1
  unfold eqM neM eqB
  simp [h, hs, SeqAt.eqv_refl p hc]

end Rg

/-! what is to hold behind a plain function: rules for one step after another -/
namespace Rg
open PySem PySem.Spec PyProof.Rows L2 Fs
def Vc {α : Type} (r : R α) (Q : α → Sto → Prop) : Prop := ∃ a s, r = .ok a s ∧ Q a s
def BR (b : Bool) (p q : Prop) : Prop := (b = true → p) ∧ (b = false → q)
theorem BR_t {p q : Prop} (h : p) : BR true p q := ⟨fun _ => h, fun z => (by cases z)⟩
theorem BR_f {p q : Prop} (h : q) : BR false p q := ⟨fun z => (by cases z), fun _ => h⟩
theorem BR_d {c : Prop} [Decidable c] {p q : Prop} (h : c → p) (h2 : ¬ c → q) : BR (decide c) p q := ⟨fun z => h (of_decide_eq_true z), fun z => h2 (of_decide_eq_false z)⟩
theorem BR_n {b : Bool} {p q : Prop} (h : BR b q p) : BR (!b) p q := ⟨fun z => h.2 (by simpa using z), fun z => h.1 (by simpa using z)⟩
theorem BR_pos {c : Prop} [Decidable c] {p q : Prop} (h : c) (h2 : p) : BR (decide c) p q := ⟨fun _ => h2, fun z => absurd h (of_decide_eq_false z)⟩
theorem BR_neg {c : Prop} [Decidable c] {p q : Prop} (h : ¬ c) (h2 : q) : BR (decide c) p q := ⟨fun z => absurd (of_decide_eq_true z) h, fun _ => h2⟩
theorem BR_T {b : Bool} {p q : Prop} (h : b = true) (h2 : p) : BR b p q := ⟨fun _ => h2, fun z => (by rw [h] at z; cases z)⟩
theorem BR_F {b : Bool} {p q : Prop} (h : b = false) (h2 : q) : BR b p q := ⟨fun z => (by rw [h] at z; cases z), fun _ => h2⟩
theorem BR_any {b : Bool} {p q : Prop} (h : b = true → p) (h2 : b = false → q) : BR b p q := ⟨h, h2⟩
theorem BR.mono {b : Bool} {p q p' q' : Prop} (h : BR b p q) (i : p → p') (j : q → q') : BR b p' q' := ⟨fun z => i (h.1 z), fun z => j (h.2 z)⟩
theorem W_ok {α : Type} {a : α} {s : Sto} {Q : α → Sto → Prop} (h : Q a s) : Vc (.ok a s) Q := ⟨a, s, rfl, h⟩
theorem W_of {α : Type} {r : R α} {a : α} {s : Sto} {Q : α → Sto → Prop} (e : r = .ok a s) (h : Q a s) : Vc r Q := ⟨a, s, e, h⟩
theorem W_ofM {M : List Clo → Clo} {fs : List Clo} {ds : List D} {s s' : Sto} {a : D} {Q : D → Sto → Prop} (e : M fs ds s = .ok a s') (h : Q a s') : Vc (M fs ds s) Q := ⟨a, s', e, h⟩
theorem Vc.mono {α : Type} {r : R α} {Q Q' : α → Sto → Prop} (h : Vc r Q) (i : ∀ a s, Q a s → Q' a s) : Vc r Q' := by
  obtain ⟨a, s, e, q⟩ := h
  exact ⟨a, s, e, i a s q⟩
theorem W_lift {α : Type} {o : Option (α × Sto)} {a : α} {s : Sto} {Q : α → Sto → Prop} (e : o = some (a, s)) (q : Q a s) : Vc (lift o) Q := ⟨a, s, by rw [e]; rfl, q⟩
theorem W_bind {α β : Type} {r : R α} {f : α → Sto → R β} {Q : β → Sto → Prop} (h : Vc r fun a s => Vc (f a s) Q) : Vc (r.bind f) Q := by
  obtain ⟨a, s, e, b, s2, e2, q⟩ := h
  exact ⟨b, s2, by rw [e]; exact e2, q⟩
section
variable {ρ : En} {st : Sto} {Q : D → Sto → Prop} {QB : Bool → Sto → Prop} {QL : List D → Sto → Prop} {a b c : C} {r : AL}
theorem W_var {k : Nat} {d : D} (h : ρ[k]? = some (some d)) (q : Q d st) : Vc (cVar k ρ st) Q := ⟨d, st, by unfold cVar; rw [h], q⟩
theorem W_K {d : D} (q : Q d st) : Vc (cK d ρ st) Q := ⟨d, st, rfl, q⟩
theorem W_op {f : D → D → Sto → Option (D × Sto)} (h : Vc (a ρ st) fun x s => Vc (b ρ s) fun y s2 => Vc (lift (f x y s2)) Q) : Vc (cOp f a b ρ st) Q := W_bind (h.mono fun _ _ h => W_bind h)
theorem W_bi {f : List D → Sto → Option (D × Sto)} (h : Vc (r ρ st) fun x s => Vc (lift (f x s)) Q) : Vc (cBi f r ρ st) Q := W_bind h
theorem W_nil (q : QL [] st) : Vc (aNil ρ st) QL := ⟨[], st, rfl, q⟩
theorem W_cons (h : Vc (a ρ st) fun x s => Vc (r ρ s) fun xs s2 => QL (x :: xs) s2) : Vc (aCons a r ρ st) QL := W_bind (h.mono fun _ _ h => W_bind (h.mono fun _ _ h => W_ok h))
theorem W_tup (h : Vc (r ρ st) fun xs s => xs.length ≤ 1000 ∧ Q (.tup xs) s) : Vc (cTup r ρ st) Q := W_bind (h.mono fun xs s h => by rw [if_pos (small_size h.1)]; exact W_ok h.2)
theorem W_lst (h : Vc (r ρ st) fun xs s => xs.length ≤ 1000 ∧ Q (.ref s.length) (s ++ [.lst xs])) : Vc (cLst r ρ st) Q := W_bind (h.mono fun xs s h => by rw [if_pos (small_size h.1)]; exact W_ok h.2)
theorem W_call {n : Nat} {M : List Clo → Clo} (h : Vc (r ρ st) fun ds s => ds.length = n ∧ Vc (M [] ds s) Q) : Vc (cCall n M r ρ st) Q := W_bind (h.mono fun xs s h => by rw [if_pos h.1]; exact h.2)
theorem W_callF {M : List Clo → Clo} {r : AF} (h : Vc (r ρ st) fun p s => Vc (M p.1 p.2 s) Q) : Vc (cCallF M r ρ st) Q := W_bind h
theorem W_callP {φ : Clo} (h : Vc (r ρ st) fun ds s => Vc (φ ds s) Q) : Vc (cCallP φ r ρ st) Q := W_bind h
section
variable {QF : List Clo × List D → Sto → Prop}
theorem W_afNil (q : QF ([], []) st) : Vc (afNil ρ st) QF := ⟨_, st, rfl, q⟩
theorem W_afCons {r : AF} (h : Vc (a ρ st) fun x s => Vc (r ρ s) fun p s2 => QF (p.1, x :: p.2) s2) : Vc (afCons a r ρ st) QF := W_bind (h.mono fun _ _ h => W_bind (h.mono fun _ _ h => W_ok h))
theorem W_afDef {M : List Clo → Clo} (q : QF ([M []], []) st) : Vc (afDef M ρ st) QF := ⟨_, st, rfl, q⟩
theorem W_afSlot {φ : Clo} (q : QF ([φ], []) st) : Vc (afSlot φ ρ st) QF := ⟨_, st, rfl, q⟩
theorem W_afLam {k n : Nat} {js : List Nat} {mb : C} (q : QF ([lamM k n (js.map (slotM ρ)) mb], []) st) : Vc (afLam k n js mb ρ st) QF := ⟨_, st, rfl, q⟩
end
theorem W_if {t : B} (h : Vc (t ρ st) fun x s => BR x (Vc (a ρ s) Q) (Vc (b ρ s) Q)) : Vc (cIf t a b ρ st) Q := W_bind (h.mono fun x s h => by cases x; exact h.2 rfl; exact h.1 rfl)
theorem W_and (h : Vc (a ρ st) fun d s => ∃ x, d = .bl x ∧ BR x (Vc (b ρ s) Q) (Q (.bl false) s)) : Vc (cAnd a b ρ st) Q := W_bind (h.mono fun d s ⟨x, e, h⟩ => by subst e; cases x; exact W_ok (h.2 rfl); exact h.1 rfl)
theorem W_or (h : Vc (a ρ st) fun d s => ∃ x, d = .bl x ∧ BR x (Q (.bl true) s) (Vc (b ρ s) Q)) : Vc (cOr a b ρ st) Q := W_bind (h.mono fun d s ⟨x, e, h⟩ => by subst e; cases x; exact h.2 rfl; exact W_ok (h.1 rfl))
theorem W_not (h : Vc (a ρ st) fun d s => ∃ x, d = .bl x ∧ Q (.bl (!x)) s) : Vc (cNot a ρ st) Q := W_bind (h.mono fun d s ⟨x, e, h⟩ => by subst e; exact W_ok h)
theorem W_notT (h : Vc (a ρ st) fun d s => Vc (lift (truM d s)) fun x s2 => Q (.bl (!x)) s2) : Vc (cNotT a ρ st) Q := W_bind (h.mono fun d s h => W_bind (h.mono fun _ _ h => W_ok h))
theorem W_neg (h : Vc (a ρ st) fun d s => ∃ i, d = .int i ∧ Q (.int (-i)) s) : Vc (cNeg a ρ st) Q := W_bind (h.mono fun d s ⟨x, e, h⟩ => by subst e; exact W_ok h)
theorem W_chain {m n : D → D → Sto → Option (D × Sto)} (h : Vc (a ρ st) fun x s1 => Vc (b ρ s1) fun y s2 => Vc (lift (m x y s2)) fun z s3 => ∃ t, z = .bl t ∧ BR t (Vc (c ρ s3) fun w s4 => Vc (lift (n y w s4)) Q) (Q (.bl false) s3)) : Vc (cChain m n a b c ρ st) Q :=
  W_bind (h.mono fun _ _ h => W_bind (h.mono fun _ _ h => W_bind (h.mono fun d s ⟨x, e, h⟩ => by subst e; cases x; exact W_ok (h.2 rfl); exact W_bind (h.1 rfl))))
theorem W_isi {T : String} (h : Vc (a ρ st) fun d s => ∃ n, tyName d s = some n ∧ Q (.bl (isiT T n)) s) : Vc (cIsi T a ρ st) Q := W_bind (h.mono fun d s ⟨x, e, h⟩ => by rw [e]; exact W_ok h)
theorem W_val (h : Vc (a ρ st) fun d s => ∃ x, d = .bl x ∧ QB x s) : Vc (bVal a ρ st) QB := W_bind (h.mono fun d s ⟨x, e, h⟩ => by subst e; exact W_ok h)
theorem W_tru (h : Vc (a ρ st) fun d s => Vc (lift (truM d s)) QB) : Vc (bTru a ρ st) QB := W_bind h
theorem W_bAnd {t u : B} (h : Vc (t ρ st) fun x s => BR x (Vc (u ρ s) QB) (QB false s)) : Vc (bAnd t u ρ st) QB := W_bind (h.mono fun x s h => by cases x; exact W_ok (h.2 rfl); exact h.1 rfl)
theorem W_bOr {t u : B} (h : Vc (t ρ st) fun x s => BR x (QB true s) (Vc (u ρ s) QB)) : Vc (bOr t u ρ st) QB := W_bind (h.mono fun x s h => by cases x; exact h.2 rfl; exact W_ok (h.1 rfl))
theorem W_bNot {t : B} (h : Vc (t ρ st) fun x s => QB (!x) s) : Vc (bNot t ρ st) QB := W_bind (h.mono fun _ _ h => W_ok h)
theorem W_sl {lo hi : Po} (h : Vc (a ρ st) fun d s1 => Vc (lo ρ s1) fun l s2 => Vc (hi ρ s2) fun u s3 => Vc (lift (slM d l u s3)) Q) : Vc (cSl a lo hi ρ st) Q := W_bind (h.mono fun _ _ h => W_bind (h.mono fun _ _ h => W_bind h))
theorem W_poN {QO : Option Int → Sto → Prop} (q : QO none st) : Vc (poNone ρ st) QO := ⟨_, _, rfl, q⟩
theorem W_poS {QO : Option Int → Sto → Prop} (h : Vc (a ρ st) fun d s => ∃ i, d = .int i ∧ QO (some i) s) : Vc (poSome a ρ st) QO := W_bind (h.mono fun d s ⟨x, e, h⟩ => by subst e; exact W_ok h)
theorem W_rev (h : Vc (a ρ st) fun d s => Vc (lift (revM d s)) Q) : Vc (cRev a ρ st) Q := W_bind h
theorem W_meth {f : List D → List D → Option (D × List D)} (h : Vc (a ρ st) fun d s => ∃ n xs0, d = .ref n ∧ s[n]? = some (.lst xs0) ∧ Vc (r ρ s) fun ds s2 => ∃ xs v ys, s2[n]? = some (.lst xs) ∧ f xs ds = some (v, ys) ∧ Q v (s2.set n (.lst ys))) : Vc (cMethL f a r ρ st) Q := by
  refine W_bind (h.mono ?_)
  rintro d s ⟨n, xs0, rfl, e, h⟩
  show Vc (match s[n]? with
    | some (.lst _) => _
    | _ => _) Q
  rw [e]
  refine W_bind (h.mono ?_)
  rintro ds s2 ⟨xs, v, ys, e2, e3, h⟩
  rw [e2]
  simp only [e3]
  exact W_ok h
theorem W_count (h : Vc (a ρ st) fun d s => (itemsOf d s).isSome = true ∧ Vc (r ρ s) fun ds s2 => ∃ y, ds = [y] ∧ Vc (lift (countM d y s2)) Q) : Vc (cCount a r ρ st) Q := by
  refine W_bind (h.mono ?_)
  rintro d s ⟨e, h⟩
  rw [if_pos e]
  refine W_bind (h.mono ?_)
  rintro ds s2 ⟨y, rfl, h⟩
  exact h
end
/-! numbers -/
section
variable {st : Sto} {Q : D → Sto → Prop} {i j : Int}
theorem O_add (q : Q (.int (i + j)) st) : Vc (lift (addM (.int i) (.int j) st)) Q := ⟨_, _, rfl, q⟩
theorem O_iadd (q : Q (.int (i + j)) st) : Vc (lift (iaddM (.int i) (.int j) st)) Q := ⟨_, _, rfl, q⟩
theorem O_sub (q : Q (.int (i - j)) st) : Vc (lift (subM (.int i) (.int j) st)) Q := ⟨_, _, rfl, q⟩
theorem O_mod (h : 0 < j) (q : Q (.int (i % j)) st) : Vc (lift (modM (.int i) (.int j) st)) Q := W_lift (by unfold modM intM; simp only [decide_eq_true h, if_true]) q
theorem O_div (h : 0 < j ∧ j < 18446744073709551616) (q : Q (.int (i / j)) st) : Vc (lift (divM (.int i) (.int j) st)) Q := W_lift (by unfold divM intM; simp only [decide_eq_true h.1, decide_eq_true h.2, Bool.and_self, if_true]) q
theorem small_of (h : -18446744073709551616 < i ∧ i < 18446744073709551616) : small64b i = true := by unfold small64b; rw [decide_eq_true h.1, decide_eq_true h.2]; rfl
theorem O_mulL (h : -18446744073709551616 < i ∧ i < 18446744073709551616) (q : Q (.int (i * j)) st) : Vc (lift (mulM (.int i) (.int j) st)) Q := W_lift (by simp [mulM, small_of h]) q
theorem O_mulR (h : -18446744073709551616 < j ∧ j < 18446744073709551616) (q : Q (.int (i * j)) st) : Vc (lift (mulM (.int i) (.int j) st)) Q := W_lift (by simp [mulM, small_of h]) q
theorem O_lt (q : Q (.bl (decide (i < j))) st) : Vc (lift (ltM (.int i) (.int j) st)) Q := ⟨_, _, rfl, q⟩
theorem O_le (q : Q (.bl (decide (i ≤ j))) st) : Vc (lift (leM (.int i) (.int j) st)) Q := ⟨_, _, rfl, q⟩
theorem O_gt (q : Q (.bl (decide (j < i))) st) : Vc (lift (gtM (.int i) (.int j) st)) Q := ⟨_, _, rfl, q⟩
theorem O_ge (q : Q (.bl (decide (j ≤ i))) st) : Vc (lift (geM (.int i) (.int j) st)) Q := ⟨_, _, rfl, q⟩
theorem O_eq (q : Q (.bl (decide (i = j))) st) : Vc (lift (eqM (.int i) (.int j) st)) Q := W_lift eqM_int q
theorem O_ne (q : Q (.bl (!decide (i = j))) st) : Vc (lift (neM (.int i) (.int j) st)) Q := W_lift neM_int q
theorem O_is {x y : D} {b : Bool} (h : isB x y = some b) (q : Q (.bl b) st) : Vc (lift (isM x y st)) Q := W_lift (by unfold isM; rw [h]; rfl) q
theorem O_isNot {x y : D} {b : Bool} (h : isB x y = some b) (q : Q (.bl (!b)) st) : Vc (lift (isNotM x y st)) Q := W_lift (by unfold isNotM; rw [h]; rfl) q
theorem O_ixT {xs : List D} {d : D} (h : atI xs i = some d) (q : Q d st) : Vc (lift (ixM (.tup xs) (.int i) st)) Q := W_lift (by unfold ixM; simp only [h, Option.map_some]) q
theorem O_ixF {xs : List D} {d : D} (h : atI xs i = some d) (q : Q d st) : Vc (lift (ixM (.fl xs) (.int i) st)) Q := W_lift (by unfold ixM; simp only [h, Option.map_some]) q
theorem O_ixR {n : Nat} {xs : List D} {d : D} (h0 : st[n]? = some (.lst xs)) (h : atI xs i = some d) (q : Q d st) : Vc (lift (ixM (.ref n) (.int i) st)) Q := W_lift (by unfold ixM; simp only [h0, h, Option.map_some]) q
theorem O_catT {xs ys : List D} (h : xs.length + ys.length ≤ 100000) (q : Q (.tup (xs ++ ys)) st) : Vc (lift (addM (.tup xs) (.tup ys) st)) Q := W_lift (by unfold addM; simp only; rw [if_pos (by rw [sizeLine_eq]; omega)]) q
theorem O_catR {m n : Nat} {xs ys : List D} (h1 : st[m]? = some (.lst xs)) (h2 : st[n]? = some (.lst ys)) (h : xs.length + ys.length ≤ 100000) (q : Q (.ref st.length) (st ++ [.lst (xs ++ ys)])) : Vc (lift (addM (.ref m) (.ref n) st)) Q := W_lift (by unfold addM; simp only [h1, h2]; rw [if_pos (by rw [sizeLine_eq]; omega)]) q
theorem O_lenT {xs : List D} (q : Q (.int xs.length) st) : Vc (lift (lenM [.tup xs] st)) Q := ⟨_, _, rfl, q⟩
theorem O_lenF {xs : List D} (q : Q (.int xs.length) st) : Vc (lift (lenM [.fl xs] st)) Q := ⟨_, _, rfl, q⟩
theorem O_lenR {n : Nat} {xs : List D} (h0 : st[n]? = some (.lst xs)) (q : Q (.int xs.length) st) : Vc (lift (lenM [.ref n] st)) Q := W_lift (by simp [lenM, itemsOf, h0]) q
theorem O_tupR {n : Nat} {xs : List D} (h0 : st[n]? = some (.lst xs)) (q : Q (.tup xs) st) : Vc (lift (tupleM [.ref n] st)) Q := W_lift (by simp [tupleM, itemsOf, h0]) q
theorem O_tupT {xs : List D} (q : Q (.tup xs) st) : Vc (lift (tupleM [.tup xs] st)) Q := ⟨_, _, rfl, q⟩
theorem O_listT {xs : List D} (q : Q (.ref st.length) (st ++ [.lst xs])) : Vc (lift (listM [.tup xs] st)) Q := ⟨_, _, rfl, q⟩
theorem O_listR {n : Nat} {xs : List D} (h0 : st[n]? = some (.lst xs)) (q : Q (.ref st.length) (st ++ [.lst xs])) : Vc (lift (listM [.ref n] st)) Q := W_lift (by simp [listM, itemsOf, h0]) q
theorem O_int (q : Q (.int i) st) : Vc (lift (toIntM [.int i] st)) Q := ⟨_, _, rfl, q⟩
theorem O_intB {b : Bool} (q : Q (.int (if b then 1 else 0)) st) : Vc (lift (toIntM [.bl b] st)) Q := ⟨_, _, rfl, q⟩
theorem O_min2 (q : Q (.int (minI i j)) st) : Vc (lift (min2M [.int i, .int j] st)) Q := ⟨_, _, rfl, q⟩
theorem O_max2 (q : Q (.int (maxI i j)) st) : Vc (lift (max2M [.int i, .int j] st)) Q := ⟨_, _, rfl, q⟩
theorem O_slT {xs : List D} {lo hi : Option Int} (q : Q (.tup (cutD xs lo hi)) st) : Vc (lift (slM (.tup xs) lo hi st)) Q := ⟨_, _, rfl, q⟩
theorem O_slR {n : Nat} {xs : List D} {lo hi : Option Int} (h0 : st[n]? = some (.lst xs)) (q : Q (.ref st.length) (st ++ [.lst (cutD xs lo hi)])) : Vc (lift (slM (.ref n) lo hi st)) Q := W_lift (by unfold slM; simp only [h0]) q
theorem O_revT {xs : List D} (q : Q (.tup xs.reverse) st) : Vc (lift (revM (.tup xs) st)) Q := ⟨_, _, rfl, q⟩
theorem O_revR {n : Nat} {xs : List D} (h0 : st[n]? = some (.lst xs)) (q : Q (.ref st.length) (st ++ [.lst xs.reverse])) : Vc (lift (revM (.ref n) st)) Q := W_lift (by unfold revM; simp only [h0]) q
theorem O_truB {b : Bool} {QB : Bool → Sto → Prop} (q : QB b st) : Vc (lift (truM (.bl b) st)) QB := ⟨_, _, rfl, q⟩
theorem O_truT {xs : List D} {QB : Bool → Sto → Prop} (q : QB (!xs.isEmpty) st) : Vc (lift (truM (.tup xs) st)) QB := ⟨_, _, rfl, q⟩
theorem O_truI {QB : Bool → Sto → Prop} (q : QB (i != 0) st) : Vc (lift (truM (.int i) st)) QB := ⟨_, _, rfl, q⟩
theorem O_truR {n : Nat} {xs : List D} {QB : Bool → Sto → Prop} (h0 : st[n]? = some (.lst xs)) (q : QB (!xs.isEmpty) st) : Vc (lift (truM (.ref n) st)) QB := W_lift (by simp [truM, h0]) q
theorem O_repT {xs : List D} {k : Int} (h : xs.length ≠ 0 ∧ xs.length ≤ 1000 ∧ -1000 ≤ k ∧ k ≤ 2000) (q : Q (.tup (List.replicate k.toNat xs).flatten) st) : Vc (lift (mulM (.tup xs) (.int k) st)) Q := W_lift (by unfold mulM; simp only; rw [if_pos h]) q
theorem O_repR {n : Nat} {xs : List D} {k : Int} (h0 : st[n]? = some (.lst xs)) (h : -100000 ≤ k ∧ k ≤ 100000) (h2 : xs.length ≤ 1) (q : Q (.ref st.length) (st ++ [.lst (List.replicate k.toNat xs).flatten])) : Vc (lift (mulM (.ref n) (.int k) st)) Q := by
  refine W_lift ?_ q
  unfold mulM
  simp only [h0]
  have h4 : xs.length * k.toNat ≤ 1 * k.toNat := Nat.mul_le_mul_right _ h2
  have h5 : k.toNat ≤ 100000 := by omega
  rw [if_pos ⟨by omega, by omega, by rw [sizeLine_eq]; omega⟩]
theorem O_sum {n : Nat} {ns : List Int} (h0 : st[n]? = some (.lst (ns.map D.int))) (q : Q (.int ns.sum) st) : Vc (lift (sumM [.ref n] st)) Q := W_lift (by simp [sumM, lstInts, h0]) q
theorem O_all {n : Nat} {bs : List Bool} (h0 : st[n]? = some (.lst (bs.map D.bl))) (q : Q (.bl (bs.all id)) st) : Vc (lift (allM [.ref n] st)) Q := W_lift (by simp [allM, lstBls, h0]) q
theorem O_any {n : Nat} {bs : List Bool} (h0 : st[n]? = some (.lst (bs.map D.bl))) (q : Q (.bl (bs.any id)) st) : Vc (lift (anyM [.ref n] st)) Q := W_lift (by simp [anyM, lstBls, h0]) q
end
/-! what a loop walks -/
section
variable {ρ : En} {st : Sto} {QW : Wk → Sto → Prop} {a : C} {r : AL}
theorem W_seq (h : Vc (a ρ st) fun d s => Vc (lift (walkM d s)) QW) : Vc (wSeq a ρ st) QW := W_bind h
theorem W_arg {f : List D → Sto → Option (Wk × Sto)} (h : Vc (r ρ st) fun ds s => Vc (lift (f ds s)) QW) : Vc (wArg f r ρ st) QW := W_bind h
theorem I_tup {xs : List D} (q : QW ⟨xs, []⟩ st) : Vc (lift (walkM (.tup xs) st)) QW := ⟨_, _, rfl, q⟩
theorem I_ref {n : Nat} {xs : List D} (h0 : st[n]? = some (.lst xs)) (q : QW ⟨xs, [(n, xs)]⟩ st) : Vc (lift (walkM (.ref n) st)) QW := W_lift (by unfold walkM; simp only [h0]) q
theorem I_rng {n : Int} (h : 0 ≤ n ∧ n ≤ 100000) (q : QW ⟨rangeL 0 n.toNat, []⟩ st) : Vc (lift (rangeM1 [.int n] st)) QW := W_lift (by
  have h2 : in62 n = true := by unfold in62; simp; omega
  unfold rangeM1
  simp only [h2, if_true]) q
theorem I_enT {xs : List D} (q : QW ⟨enumL 0 xs, []⟩ st) : Vc (lift (enumM [.tup xs] st)) QW := ⟨_, _, rfl, q⟩
theorem I_enR {n : Nat} {xs : List D} (h0 : st[n]? = some (.lst xs)) (q : QW ⟨enumL 0 xs, [(n, xs)]⟩ st) : Vc (lift (enumM [.ref n] st)) QW := W_lift (by unfold enumM; simp only [h0]) q
theorem I_zipTT {xs ys : List D} (q : QW ⟨zipL xs ys, []⟩ st) : Vc (lift (zipKM [.tup xs, .tup ys] st)) QW := ⟨_, _, rfl, q⟩
theorem I_zipRT {n : Nat} {xs ys : List D} (h0 : st[n]? = some (.lst xs)) (q : QW ⟨zipL xs ys, [(n, xs)]⟩ st) : Vc (lift (zipKM [.ref n, .tup ys] st)) QW := W_lift (by unfold zipKM seqW; simp only [h0, List.append_nil]) q
theorem I_zipTR {n : Nat} {xs ys : List D} (h0 : st[n]? = some (.lst ys)) (q : QW ⟨zipL xs ys, [(n, ys)]⟩ st) : Vc (lift (zipKM [.tup xs, .ref n] st)) QW := W_lift (by unfold zipKM seqW; simp only [h0, List.nil_append]) q
end
/-! statements -/
def Vs (r : RO) (K : RO → Prop) : Prop := K r
def seqK (b : S) (K : RO → Prop) : RO → Prop
  | .nx ρ s => Vs (b ρ s) K
  | r => K r
def loopK (J : En → Sto → Prop) (K : RO → Prop) : RO → Prop
  | .nx ρ s => J ρ s
  | .ct ρ s => J ρ s
  | .bk ρ s => K (.nx ρ s)
  | r => K r
section
variable {ρ : En} {st : Sto} {K : RO → Prop} {A B' : S} {m : C} {r : AL}
theorem W_then {α : Type} {x : R α} {f : α → Sto → RO} (h : Vc x fun a s => Vs (f a s) K) : Vs (thenS ρ x f) K := by
  obtain ⟨a, s, e, q⟩ := h
  unfold Vs
  rw [e]
  exact q
theorem S_seq (h : Vs (A ρ st) (seqK B' K)) : Vs (sSeq A B' ρ st) K := by
  unfold Vs at h ⊢
  unfold sSeq
  generalize A ρ st = r at h
  cases r <;> exact h
theorem K_nx {ρ' : En} {s : Sto} (h : Vs (B' ρ' s) K) : seqK B' K (.nx ρ' s) := h
theorem K_rt {d : D} {s : Sto} (h : K (.rt d s)) : seqK B' K (.rt d s) := h
theorem K_bk {ρ' : En} {s : Sto} (h : K (.bk ρ' s)) : seqK B' K (.bk ρ' s) := h
theorem K_ct {ρ' : En} {s : Sto} (h : K (.ct ρ' s)) : seqK B' K (.ct ρ' s) := h
theorem L_nx {J : En → Sto → Prop} {ρ' : En} {s : Sto} (h : J ρ' s) : loopK J K (.nx ρ' s) := h
theorem L_ct {J : En → Sto → Prop} {ρ' : En} {s : Sto} (h : J ρ' s) : loopK J K (.ct ρ' s) := h
theorem L_bk {J : En → Sto → Prop} {ρ' : En} {s : Sto} (h : K (.nx ρ' s)) : loopK J K (.bk ρ' s) := h
theorem L_rt {J : En → Sto → Prop} {d : D} {s : Sto} (h : K (.rt d s)) : loopK J K (.rt d s) := h
theorem S_next (h : K (.nx ρ st)) : Vs (sNext ρ st) K := h
theorem S_ct (h : K (.ct ρ st)) : Vs (sCt ρ st) K := h
theorem S_bk (h : K (.bk ρ st)) : Vs (sBk ρ st) K := h
theorem S_expr (h : Vc (m ρ st) fun _ s => K (.nx ρ s)) : Vs (sExpr m ρ st) K := W_then h
theorem S_ret (h : Vc (m ρ st) fun d s => K (.rt d s)) : Vs (sRet m ρ st) K := W_then h
theorem S_retN (h : K (.rt .non st)) : Vs (sRetN ρ st) K := h
theorem S_if {t : B} (h : Vc (t ρ st) fun b s => BR b (Vs (A ρ s) K) (Vs (B' ρ s) K)) : Vs (sIf t A B' ρ st) K := W_then (h.mono fun b s h => by cases b; exact h.2 rfl; exact h.1 rfl)
theorem S_asgN {i : Nat} (h : Vc (m ρ st) fun d s => K (.nx (ρ.set i (some d)) s)) : Vs (sAsg m (tN i) ρ st) K := W_then h
theorem S_asg {g : T} (h : Vc (m ρ st) fun d s => ∃ ρ' s', g d ρ s = some (ρ', s') ∧ K (.nx ρ' s')) : Vs (sAsg m g ρ st) K := W_then (h.mono fun d s ⟨ρ', s', e, h⟩ => by unfold Vs; rw [e]; exact h)
theorem S_aug {i : Nat} {f : D → D → Sto → Option (D × Sto)} {x : D} (h0 : ρ[i]? = some (some x)) (h : Vc (m ρ st) fun y s => Vc (lift (f x y s)) fun z s' => K (.nx (ρ.set i (some z)) s')) : Vs (sAug i f m ρ st) K := by
  unfold sAug
  rw [h0]
  refine W_then (h.mono fun y s h => ?_)
  obtain ⟨z, s', e, q⟩ := h
  unfold Vs
  cases e2 : f x y s with
  | none => rw [e2] at e; cases e
  | some p =>
    rw [e2] at e
    cases e
    exact q
theorem S_par {i j : Nat} (h : Vc (r ρ st) fun ds s => ∃ x y, ds = [x, y] ∧ K (.nx ((ρ.set i (some x)).set j (some y)) s)) : Vs (sPar i j r ρ st) K := W_then (h.mono fun ds s ⟨x, y, e, h⟩ => by subst e; exact h)
theorem S_raise {c : Str} (h : Vc (r ρ st) fun ds s => ∃ d, ds = [d] ∧ K (.ex c d ρ s)) : Vs (sRaise c r ρ st) K := W_then (h.mono fun ds s ⟨d, e, h⟩ => by subst e; exact h)
theorem loopF_wp {ok : Sto → Prop} {tgt : T} {body : S} {J : Nat → En → Sto → Prop} (hok : ∀ k ρ s, J k ρ s → ok s) : ∀ (ds : List D) (k : Nat) (ρ : En) (st : Sto), J k ρ st →
    (∀ (i : Nat) (d : D) (ρ : En) (s : Sto), ds[i]? = some d → J (k + i) ρ s → ∃ ρ1 s1, tgt d ρ s = some (ρ1, s1) ∧ Vs (body ρ1 s1) (loopK (J (k + i + 1)) K)) →
    (∀ ρ s, J (k + ds.length) ρ s → K (.nx ρ s)) → Vs (loopF ok tgt body ds ρ st) K
  | [], k, ρ, st, h, _, q => by
    rw [loopF_nil (hok _ _ _ h)]
    exact q ρ st h
  | d :: ds, k, ρ, st, h, hs, q => by
    obtain ⟨ρ1, s1, h1, h2⟩ := hs 0 d ρ st rfl h
    unfold Vs
    unfold loopF
    rw [if_pos (hok _ _ _ h)]
    simp only [h1]
    unfold Vs at h2
    have next : ∀ ρ2 s2, J (k + 0 + 1) ρ2 s2 → K (loopF ok tgt body ds ρ2 s2) := fun ρ2 s2 j => by
      refine loopF_wp hok ds (k + 1) ρ2 s2 j (fun i d' ρ s hi hj => ?_) (fun ρ s hj => ?_)
      · have e0 : k + (i + 1) = k + 1 + i := by omega
        have := hs (i + 1) d' ρ s (by simpa using hi) (by rw [e0]; exact hj)
        rw [e0] at this
        exact this
      · refine q ρ s ?_
        rw [List.length_cons, show k + (ds.length + 1) = k + 1 + ds.length by omega]
        exact hj
    cases hb : body ρ1 s1 with
    | nx ρ2 s2 => rw [hb] at h2; exact next _ _ h2
    | ct ρ2 s2 => rw [hb] at h2; exact next _ _ h2
    | bk ρ2 s2 => rw [hb] at h2; exact h2
    | rt d s2 => rw [hb] at h2; exact h2
    | ex c d ρ2 s2 => rw [hb] at h2; exact h2
    | no => rw [hb] at h2; exact h2
/-- a loop that keeps J -/
theorem S_for (J : Nat → En → Sto → Prop) {mi : MI} {tgt : T} (h : Vc (mi ρ st) fun wk s => J 0 ρ s ∧ (∀ k ρ s, J k ρ s → okW wk.lk s) ∧
    (∀ (i : Nat) (d : D) (ρ : En) (s : Sto), wk.items[i]? = some d → J i ρ s → ∃ ρ1 s1, tgt d ρ s = some (ρ1, s1) ∧ Vs (A ρ1 s1) (loopK (J (i + 1)) K)) ∧ ∀ ρ s, J wk.items.length ρ s → K (.nx ρ s)) : Vs (sFor mi tgt A ρ st) K :=
  W_then (h.mono fun wk s ⟨h1, h2, h3, h4⟩ => loopF_wp h2 wk.items 0 ρ s h1 (fun i d ρ s hi hj => by
    rw [Nat.zero_add] at hj ⊢
    exact h3 i d ρ s hi hj) (fun ρ s hj => h4 ρ s (by rwa [Nat.zero_add] at hj)))
theorem S_raises {c : Str} {d : D} {s : Sto} (e : m ρ st = .ex c d s) (h : K (.ex c d ρ s)) : Vs (sExpr m ρ st) K := by
  unfold Vs sExpr
  rw [e]
  exact h
end
/-! defs -/
def retK (P : D → Sto → Prop) : RO → Prop
  | .rt d s => P d s
  | .nx _ s => P .non s
  | _ => False
theorem R_rt {P : D → Sto → Prop} {d : D} {s : Sto} (h : P d s) : retK P (.rt d s) := h
theorem R_nx {P : D → Sto → Prop} {ρ : En} {s : Sto} (h : P .non s) : retK P (.nx ρ s) := h
theorem run_wp {mask : List Bool} {n : Nat} {m : S} {fs : List Clo} {ds : List D} {st : Sto} {P : D → Sto → Prop} (h : Vs (m (startM mask ds n) st) (retK P)) (hl : ds.length = plains mask := by rfl) :
    ∃ d s, P d s ∧ runDef mask n (fun _ => m) fs ds st = gcR st (.ok d s) := by
  unfold Vs at h
  unfold runDef
  rw [if_pos hl]
  show ∃ d s, P d s ∧ gcR st (outR (m (startM mask ds n) st)) = gcR st (.ok d s)
  generalize m (startM mask ds n) st = r at h
  cases r with
  | nx ρ s => exact ⟨.non, s, h, rfl⟩
  | rt d s => exact ⟨d, s, h, rfl⟩
  | bk ρ s => exact h.elim
  | ct ρ s => exact h.elim
  | ex c d ρ s => exact h.elim
  | no => exact h.elim
/-- a def that gives back a value and changes nothing -/
theorem run_val {mask : List Bool} {n : Nat} {m : S} {fs : List Clo} {ds : List D} {st : Sto} {v : D} (hv : v.flat = true) (h : Vs (m (startM mask ds n) st) (retK fun d s => d = v ∧ st <+: s)) (hl : ds.length = plains mask := by rfl) : runDef mask n (fun _ => m) fs ds st = .ok v st := by
  obtain ⟨d, s, ⟨rfl, g, rfl⟩, e⟩ := run_wp h hl
  rw [e]
  exact gcR_drop (D.flat_under hv)
/-- a def that gives back a new list and changes nothing -/
theorem run_new {mask : List Bool} {n : Nat} {m : S} {fs : List Clo} {ds : List D} {st : Sto} {xs : List D} (hv : D.flats xs = true) (h : Vs (m (startM mask ds n) st) (retK fun d s => ∃ k, d = .ref k ∧ st.length ≤ k ∧ s[k]? = some (.lst xs) ∧ st <+: s)) (hl : ds.length = plains mask := by rfl) : runDef mask n (fun _ => m) fs ds st = .ok (.ref st.length) (st ++ [.lst xs]) := by
  obtain ⟨d, s, ⟨k, rfl, hk, hx, g, rfl⟩, e⟩ := run_wp h hl
  rw [e]
  obtain ⟨q, rfl⟩ : ∃ q, k = st.length + q := ⟨k - st.length, by omega⟩
  refine gcR_at ?_ (D.flats_unders hv)
  rw [List.getElem?_append_right (by omega)] at hx
  simpa using hx
/-- a lambda that gives back a value and changes nothing -/
theorem lam_val {k n : Nat} {ws : List (Option D)} {mb : C} {ds : List D} {st : Sto} {v : D} (hv : v.flat = true) (h : Vc (mb (lamEn ds ws n) st) fun d s => d = v ∧ st <+: s) (hl : ds.length = k := by rfl) : lamM k n ws mb ds st = .ok v st := by
  obtain ⟨d, s, e, rfl, g, rfl⟩ := h
  unfold lamM
  rw [if_pos hl, e]
  exact gcR_drop (D.flat_under hv)
/-! what stays -/
section
variable {s s' s2 : Sto} {n : Nat} {o o2 : Ob}
theorem pr_at (p : s <+: s') (h : s[n]? = some o) : s'[n]? = some o := by
  obtain ⟨t, rfl⟩ := p
  rw [List.getElem?_append_left (List.getElem?_eq_some_iff.mp h).1]
  exact h
theorem pr_new : s <+: s ++ [o] := ⟨_, rfl⟩
theorem at_new : (s ++ [o])[s.length]? = some o := by simp
theorem at_lt (h : s[n]? = some o) : n < s.length := (List.getElem?_eq_some_iff.mp h).1
theorem at_set (h : s[n]? = some o) : (s.set n o2)[n]? = some o2 := List.getElem?_set_self (at_lt h)
theorem at_set_ne {m : Nat} (h : s[n]? = some o) (hn : m ≠ n) : (s.set m o2)[n]? = some o := by rw [List.getElem?_set_ne hn]; exact h
theorem pr_set (p : s <+: s') (h : s.length ≤ n) : s <+: s'.set n o := by
  obtain ⟨t, rfl⟩ := p
  rw [List.set_append_right _ _ h]
  exact ⟨_, rfl⟩
theorem pr_len (p : s <+: s') : s.length ≤ s'.length := p.length_le
end
/-! comprehensions -/
section
variable {mi : MI} {own : List Nat} {tgt : T} {mt : B} {me : C} {ρ : En} {st : Sto} {Q : D → Sto → Prop}
/-- each thing gives one, nothing is changed -/
theorem W_map {α : Type} (as : List α) (it g : α → D) (hmi : Vc (mi ρ st) fun wk s => s = st ∧ wk.items = as.map it ∧ okW wk.lk st) (hl : as.length ≤ 100000)
    (h : ∀ a ∈ as, ∀ s, st <+: s → ∃ ρ1, tgt (it a) (wipeM ρ own) s = some (ρ1, s) ∧ Vc (me ρ1 s) fun x s2 => x = g a ∧ s <+: s2)
    (q : ∀ s, st <+: s → s[st.length]? = some (.lst (as.map g)) → Q (.ref st.length) s) : Vc (cLc mi own tgt bYes me ρ st) Q := by
  obtain ⟨⟨items, lk⟩, s0, e0, rfl, e1, e2⟩ := hmi
  simp only at e1 e2
  subst e1
  obtain ⟨j, e⟩ := cLc_map (mi := mi) (own := own) (tgt := tgt) (mt := bYes) (me := me) (ρ := ρ) (st := s0) (as := as) (it := it) (g := g) (lk := lk) e0 e2 (by rw [sizeLine_eq]; omega) (fun a ha acc j => by
    obtain ⟨ρ1, h1, x, s2, h2, rfl, j2, rfl⟩ := h a ha (s0 ++ .lst acc :: j) ⟨_, rfl⟩
    exact ⟨ρ1, h1, rfl, j ++ j2, by rw [h2]; simp⟩)
  exact ⟨_, _, e, q _ ⟨_, rfl⟩ (by simp)⟩
/-- each thing gives one or none -/
theorem W_fil (b : D → Bool) (g : D → D) {wk : Wk} (hmi : mi ρ st = .ok wk st) (hlk : okW wk.lk st) (hl : wk.items.length ≤ 100000)
    (h : ∀ d ∈ wk.items, ∀ s, st <+: s → ∃ ρ1, tgt d (wipeM ρ own) s = some (ρ1, s) ∧ Vc (mt ρ1 s) fun y s2 => y = b d ∧ s <+: s2 ∧ (b d = true → Vc (me ρ1 s2) fun x s3 => x = g d ∧ s2 <+: s3))
    (q : ∀ s, st <+: s → s[st.length]? = some (.lst ((wk.items.filter b).map g)) → Q (.ref st.length) s) : Vc (cLc mi own tgt mt me ρ st) Q := by
  obtain ⟨acc', s', e, j, rfl, rfl⟩ := loopC_inv (ok := okW wk.lk) (n0 := st.length) (tgt := tgt) (mt := mt) (me := me) (ρ0 := wipeM ρ own) (J := fun k acc s => ∃ j, s = st ++ .lst acc :: j ∧ acc = ((wk.items.take k).filter b).map g)
    (fun k acc s ⟨j, e, _⟩ => ⟨fun p hp => by
      subst e
      have z := hlk p hp
      rw [List.getElem?_append_left (List.getElem?_eq_some_iff.mp z).1]
      exact z, by subst e; simp⟩) wk.items 0 [] (st ++ [.lst []]) ⟨[], rfl, by simp⟩ (by rw [sizeLine_eq]; simp; omega) (fun i d acc s hi ⟨j, e, ea⟩ => by
      subst e
      have hm : d ∈ wk.items := List.mem_of_getElem? hi
      obtain ⟨ρ1, h1, y, s2, h2, rfl, ⟨j2, rfl⟩, h3⟩ := h d hm _ ⟨_, rfl⟩
      have ht : wk.items.take (0 + i + 1) = wk.items.take (0 + i) ++ [d] := by
        rw [List.take_succ, Nat.zero_add, hi]
        rfl
      refine ⟨ρ1, _, b d, _, h1, h2, ?_⟩
      cases hb : b d
      · refine .inr ⟨rfl, j ++ j2, by simp, ?_⟩
        rw [ht, ea]
        simp [hb]
      · obtain ⟨x, s3, h4, rfl, j3, rfl⟩ := h3 hb
        refine .inl ⟨rfl, _, _, h4, by simp, j ++ (j2 ++ j3), by simp, ?_⟩
        rw [ht, ea]
        simp [hb])
  refine ⟨_, _, ?_, q _ ⟨_, rfl⟩ (by simp : (st ++ .lst (((wk.items.take (0 + wk.items.length)).filter b).map g) :: j)[st.length]? = some (.lst ((wk.items.filter b).map g)))⟩
  unfold cLc
  simp [hmi, R.bind, e]
end
section
variable {s s2 : Sto} {n : Nat}
theorem E_bl {b : Bool} {P : Bool → Prop} (h : P b) : ∃ x, D.bl b = D.bl x ∧ P x := ⟨b, rfl, h⟩
theorem E_int {b : Int} {P : Int → Prop} (h : P b) : ∃ x, D.int b = D.int x ∧ P x := ⟨b, rfl, h⟩
theorem E_one {b : D} {P : D → Prop} (h : P b) : ∃ x, [b] = [x] ∧ P x := ⟨b, rfl, h⟩
theorem E_two {b c : D} {P : D → D → Prop} (h : P b c) : ∃ x y, [b, c] = [x, y] ∧ P x y := ⟨b, c, rfl, h⟩
theorem E_three {b c d : D} {P : D → D → D → Prop} (h : P b c d) : ∃ x y z, [b, c, d] = [x, y, z] ∧ P x y z := ⟨b, c, d, rfl, h⟩
theorem E_some {d : D} {k : Nat} {P : Nat → Prop} (h : tyName d s = some k) (q : P k) : ∃ x, tyName d s = some x ∧ P x := ⟨k, h, q⟩
theorem E_ref {xs0 : List D} {P : Nat → Prop} (h0 : s[n]? = some (.lst xs0)) (h : P n) : ∃ m xs, D.ref n = D.ref m ∧ s[m]? = some (.lst xs) ∧ P m := ⟨n, xs0, rfl, h0, h⟩
theorem E_app {xs : List D} {y : D} {P : D → List D → Prop} (h0 : s2[n]? = some (.lst xs)) (hl : xs.length ≤ 100000) (q : P .non (xs ++ [y])) : ∃ xs v ys, s2[n]? = some (.lst xs) ∧ appendM xs [y] = some (v, ys) ∧ P v ys :=
  ⟨xs, .non, xs ++ [y], h0, by unfold appendM; simp only; rw [if_pos (by rw [sizeLine_eq]; omega)], q⟩
theorem A_len {xs : List D} {P : Prop} (h : xs.length ≤ 1000) (q : P) : xs.length ≤ 1000 ∧ P := ⟨h, q⟩
end
/-! errors -/
def Xc {α : Type} (r : R α) (P : Str → D → Sto → Prop) : Prop := ∃ c d s, r = .ex c d s ∧ P c d s
def exK (P : Str → D → Sto → Prop) : RO → Prop
  | .ex c d _ s => P c d s
  | _ => False
section
variable {ρ : En} {st : Sto} {K : RO → Prop} {B' : S} {m : C} {r : AL} {P : Str → D → Sto → Prop}
theorem X_ex {c : Str} {d : D} {s : Sto} (h : P c d s) : exK P (.ex c d ρ s) := h
theorem K_ex {c : Str} {d : D} {s : Sto} (h : K (.ex c d ρ s)) : seqK B' K (.ex c d ρ s) := h
theorem X_of {α : Type} {r : R α} {c : Str} {d : D} {s : Sto} (e : r = .ex c d s) (h : P c d s) : Xc r P := ⟨c, d, s, e, h⟩
theorem X_call {n : Nat} {M : List Clo → Clo} (h : Vc (r ρ st) fun ds s => ds.length = n ∧ Xc (M [] ds s) P) : Xc (cCall n M r ρ st) P := by
  obtain ⟨ds, s, e, hn, c, d, s2, e2, p⟩ := h
  refine ⟨c, d, s2, ?_, p⟩
  unfold cCall
  rw [e]
  show (if ds.length = n then M [] ds s else .no) = _
  rw [if_pos hn, e2]
theorem X_callP {φ : Clo} (h : Vc (r ρ st) fun ds s => Xc (φ ds s) P) : Xc (cCallP φ r ρ st) P := by
  obtain ⟨ds, s, e, c, d, s2, e2, p⟩ := h
  refine ⟨c, d, s2, ?_, p⟩
  unfold cCallP
  rw [e]
  exact e2
theorem X_arg1 {n : Nat} {M : List Clo → Clo} {a : C} (h : Xc (a ρ st) P) : Xc (cCall n M (aCons a r) ρ st) P := by
  obtain ⟨c, d, s, e, p⟩ := h
  refine ⟨c, d, s, ?_, p⟩
  unfold cCall aCons
  rw [e]
  rfl
theorem S_exprX (h : Xc (m ρ st) fun c d s => K (.ex c d ρ s)) : Vs (sExpr m ρ st) K := by
  obtain ⟨c, d, s, e, p⟩ := h
  unfold Vs sExpr
  rw [e]
  exact p
theorem S_retX (h : Xc (m ρ st) fun c d s => K (.ex c d ρ s)) : Vs (sRet m ρ st) K := by
  obtain ⟨c, d, s, e, p⟩ := h
  unfold Vs sRet
  rw [e]
  exact p
theorem S_asgX {g : T} (h : Xc (m ρ st) fun c d s => K (.ex c d ρ s)) : Vs (sAsg m g ρ st) K := by
  obtain ⟨c, d, s, e, p⟩ := h
  unfold Vs sAsg
  rw [e]
  exact p
end
theorem run_ex {mask : List Bool} {n : Nat} {m : S} {fs : List Clo} {ds : List D} {st : Sto} {c : Str} {v : D} (hv : v.flat = true) (h : Vs (m (startM mask ds n) st) (exK fun c' d s => c' = c ∧ d = v ∧ st <+: s)) (hl : ds.length = plains mask := by rfl) : runDef mask n (fun _ => m) fs ds st = .ex c v st := by
  unfold Vs at h
  unfold runDef
  rw [if_pos hl]
  show gcR st (outR (m (startM mask ds n) st)) = _
  generalize m (startM mask ds n) st = r at h
  cases r with
  | ex c2 d ρ s =>
    obtain ⟨rfl, rfl, g, rfl⟩ := h
    exact gcR_dropE (D.flat_under hv)
  | nx ρ s => exact h.elim
  | rt d s => exact h.elim
  | bk ρ s => exact h.elim
  | ct ρ s => exact h.elim
  | no => exact h.elim
theorem lam_ex {k n : Nat} {ws : List (Option D)} {mb : C} {ds : List D} {st : Sto} {c : Str} {v : D} (hv : v.flat = true) (h : Xc (mb (lamEn ds ws n) st) fun c' d s => c' = c ∧ d = v ∧ st <+: s) (hl : ds.length = k := by rfl) : lamM k n ws mb ds st = .ex c v st := by
  obtain ⟨c', d, s, e, rfl, rfl, g, rfl⟩ := h
  unfold lamM
  rw [if_pos hl, e]
  exact gcR_dropE (D.flat_under hv)
/-- a call that gives a value or an error -/
def Oc (r : R D) (Q : D → Sto → Prop) (P : Str → D → Sto → Prop) : Prop := Vc r Q ∨ Xc r P
theorem Oc_ok {r : R D} {Q : D → Sto → Prop} {P : Str → D → Sto → Prop} {d : D} {s : Sto} (e : r = .ok d s) (q : Q d s) : Oc r Q P := .inl ⟨d, s, e, q⟩
theorem Oc_ex {r : R D} {Q : D → Sto → Prop} {P : Str → D → Sto → Prop} {c : Str} {d : D} {s : Sto} (e : r = .ex c d s) (q : P c d s) : Oc r Q P := .inr ⟨c, d, s, e, q⟩
theorem Oc_W {r : R D} {Q : D → Sto → Prop} {P : Str → D → Sto → Prop} (h : Vc r Q) : Oc r Q P := .inl h
section
variable {ρ : En} {st : Sto} {K : RO → Prop} {r : AL} {n : Nat} {M : List Clo → Clo}
theorem call_oc {Q : D → Sto → Prop} {P : Str → D → Sto → Prop} (h : Vc (r ρ st) fun ds s => ds.length = n ∧ Oc (M [] ds s) Q P) : Vc (cCall n M r ρ st) Q ∨ Xc (cCall n M r ρ st) P := by
  obtain ⟨ds, s, e, hn, h | h⟩ := h
  · exact .inl (W_call ⟨ds, s, e, hn, h⟩)
  · exact .inr (X_call ⟨ds, s, e, hn, h⟩)
theorem S_exprC (h : Vc (r ρ st) fun ds s => ds.length = n ∧ Oc (M [] ds s) (fun _ s => K (.nx ρ s)) (fun c d s => K (.ex c d ρ s))) : Vs (sExpr (cCall n M r) ρ st) K := (call_oc h).elim S_expr S_exprX
theorem S_retC (h : Vc (r ρ st) fun ds s => ds.length = n ∧ Oc (M [] ds s) (fun d s => K (.rt d s)) (fun c d s => K (.ex c d ρ s))) : Vs (sRet (cCall n M r) ρ st) K := (call_oc h).elim S_ret S_retX
theorem S_asgC {i : Nat} (h : Vc (r ρ st) fun ds s => ds.length = n ∧ Oc (M [] ds s) (fun d s => K (.nx (ρ.set i (some d)) s)) (fun c d s => K (.ex c d ρ s))) : Vs (sAsg (cCall n M r) (tN i) ρ st) K := (call_oc h).elim S_asgN S_asgX
end
/-! values that are tuples by their definition -/
section
variable {st : Sto} {Q : D → Sto → Prop} {d e : D} {xs ys : List D}
theorem V_len {k : Nat} (h : d = .tup xs) (hl : xs.length = k) (q : Q (.int k) st) : Vc (lift (lenM [d] st)) Q := by subst h hl; exact O_lenT q
theorem V_ix {y : D} {i : Int} (h : d = .tup xs) (h2 : atI xs i = some y) (q : Q y st) : Vc (lift (ixM d (.int i) st)) Q := by subst h; exact O_ixT h2 q
theorem V_sl {lo hi : Option Int} (h : d = .tup xs) (q : Q (.tup (cutD xs lo hi)) st) : Vc (lift (slM d lo hi st)) Q := by subst h; exact O_slT q
theorem V_cat (h : d = .tup xs) (h2 : e = .tup ys) (hl : xs.length + ys.length ≤ 100000) (q : Q (.tup (xs ++ ys)) st) : Vc (lift (addM d e st)) Q := by subst h h2; exact O_catT hl q
theorem V_tuple (h : d = .tup xs) (q : Q (.tup xs) st) : Vc (lift (tupleM [d] st)) Q := by subst h; exact O_tupT q
theorem V_tru {QB : Bool → Sto → Prop} (h : d = .tup xs) (q : QB (!xs.isEmpty) st) : Vc (lift (truM d st)) QB := by subst h; exact O_truT q
theorem V_walk {QW : Wk → Sto → Prop} (h : d = .tup xs) (q : QW ⟨xs, []⟩ st) : Vc (lift (walkM d st)) QW := by subst h; exact I_tup q
theorem V_enum {QW : Wk → Sto → Prop} (h : d = .tup xs) (q : QW ⟨enumL 0 xs, []⟩ st) : Vc (lift (enumM [d] st)) QW := by subst h; exact I_enT q
theorem V_zip {QW : Wk → Sto → Prop} (h : d = .tup xs) (h2 : e = .tup ys) (q : QW ⟨zipL xs ys, []⟩ st) : Vc (lift (zipKM [d, e] st)) QW := by subst h h2; exact I_zipTT q
theorem V_rev (h : d = .tup xs) (q : Q (.tup xs.reverse) st) : Vc (lift (revM d st)) Q := by subst h; exact O_revT q
end
theorem W_lstG {ρ : En} {st : Sto} {Q : D → Sto → Prop} {r : AL} (h : Vc (r ρ st) fun xs s => xs.length ≤ 1000 ∧ ∀ (n : Nat) (s' : Sto), s <+: s' → s.length ≤ n → s'[n]? = some (.lst xs) → Q (.ref n) s') : Vc (cLst r ρ st) Q :=
  W_lst (h.mono fun xs s h => ⟨h.1, h.2 _ _ pr_new (Nat.le_refl _) at_new⟩)
noncomputable def afLamA (k n : Nat) (js : List Nat) (mb : C) (m : Nat) (r : AL) : AF := fun ρ st => (r ρ st).bind fun ds s => if ds.length = m then .ok ([lamM k n (js.map (slotM ρ)) mb], ds) s else .no
theorem W_afLamA {ρ : En} {st : Sto} {QF : List Clo × List D → Sto → Prop} {k n m : Nat} {js : List Nat} {mb : C} {r : AL} (h : Vc (r ρ st) fun ds s => ds.length = m ∧ QF ([lamM k n (js.map (slotM ρ)) mb], ds) s) : Vc (afLamA k n js mb m r ρ st) QF := W_bind (h.mono fun ds s h => by rw [if_pos h.1]; exact W_ok h.2)
end Rg

/-! a lambda as the first argument, values behind it; repr of plain values -/
namespace Rg
open PySem PySem.Spec PyProof.Rows L2 Fs
section
variable {X : Cx} {TZ : Tabz} {F : Fx} {W : WX}
theorem rf_lamA {x : Str} (N fr ps : List Str) (js : List Nat) (k n : Nat) (sc : Scope) {c Pt : Addr} {params : Arguments} {body : Expr} {scope : Scope} {lpos : Pos} {mb : C} {rest : List Expr} {r : AL} {mask : List Bool} (L : LamAt TZ X.base X.mg x c Pt)
    (hbody : ∀ (q : Str) (cl : List (Str × Addr)) (f c' : Addr) (A : Around) (outer : List Env) (s : Shared) (H : Hp) (E : XK), Room k (A.deeper (NdefX.envF (lamF q params scope cl c') f s.heap.objs.size)) →
      RE (NdefX.ncx (L2.CX X.prog X.w) X.prog X.w X.K X.mg X.base N (lamF q params scope cl c') f A outer s H E) TZ ⟨s, H, 0, [], none⟩ (fun cls d _ H => E cls d H) body mb)
    (ha : RA X TZ F W rest r)
    (hcode : X.env.code = .ref c := by rfl) (hq : X.env.qual = x ++ ".<locals>." := by rfl) (Sc : NdefX.nscB N ps fr scope = true := by decide +kernel) (hfree : NdefX.ndefB sc scope fr = true := by decide +kernel) (hsc : X.env.scope = sc := by rfl) (hjs : js.map (fun j => X.N[j]?) = fr.map some := by rfl)
    (hn : N.length - ps.length - fr.length = n := by rfl) (hdef : defaultsOf params X.env = ([], []) := by rfl) (hmask : mask = List.replicate rest.length false := by rfl)
    (hst : starEach (.Lambda params body scope lpos :: rest) X.env = (false, eval (.Lambda params body scope lpos) X.env) :: starEach rest X.env := by rfl)
    (hb : ∀ (q : Str) (cl : List (Str × Addr)) (us : List Value) (pm cv ctv : Value), us.length = ps.length → bindArgs (PySem.W.kla_fn "<lambda>" q params body scope cl pm cv ctv) ⟨us, []⟩ = pure (ps.zip us)) :
    RF X TZ F W (k + 1) (true :: mask) (.Lambda params body scope lpos :: rest) (afLamA ps.length n js mb rest.length r) := by
  refine ⟨fun pos pins s σ H Q θ st ρ I hR hE q => ?_⟩
  rw [hst]
  show wpAny _ _ (spliced ((false, eval (.Lambda params body scope lpos) X.env) :: backTo pos (starEach rest X.env))) _ _ s
  have hfree := (show NdefX.ndefB X.env.scope scope fr = true by rw [hsc]; exact hfree)
  have h1 := NdefX.ndef_free hfree
  have hf2 : ∀ y ∈ scope.names, y.2 = .free → ∃ c, X.env.cells.lookup y.1 = some c := fun y hy e => (h1 y hy e).elim (fun z => I.ok.has _ (.inl z)) fun z => I.ok.has _ (.inr z)
  refine Calls.spliced_cons (LamX.lam_make2 I L.tb hcode (by rw [hq]; exact L.m) (by rw [hq]; exact L.u) hR.tabs hdef hf2 fun f c' pm ctv H1 s1 I1 eN T1 hfo hfn hfs hc => ?_)
  have keep : Keep H H1 := ⟨fun a xs e => eN _ _ e (fun _ z => by cases z), fun a o u e => eN _ _ e (fun _ z => by cases z), fun c q e => eN _ _ e LamX.codeO_ne, fun a fs e => eN _ _ e (fun _ z => by cases z)⟩
  have R1 : Rel (gx X TZ) θ st H1 := ⟨hR.len, hR.nd, fun n o a e1 e2 => by
    obtain ⟨vs, ho, h1, h2, h3⟩ := hR.obs n o a e1 e2
    exact ⟨vs, ho, eN _ _ h1 (fun ps z => by subst z; exact mut_tbl h2.mut), h2, h3.step (List.prefix_refl _) keep⟩, T1⟩
  have E1 := hE.step (List.prefix_refl θ) keep
  have nl : f ≠ X.env.locals := by
    obtain ⟨m, ⟨o', es, ep, ho', hd', _⟩, _⟩ := I1.loc
    intro z
    rw [z, ho'] at hfo
    cases hfo
    cases hd'
  have nfs : f ∉ X.fs := by
    rcases I1.ok.stk with e | ⟨e, _⟩
    · rw [e] at hfs; exact hfs
    · rw [e] at hfs
      intro z
      refine hfs ?_
      unfold frs
      rw [List.filterMap_cons]
      split
      · exact z
      · exact List.mem_cons_of_mem _ z
  have I2 : Inv X (pins ++ [(f, PySem.W.kla_obj "<lambda>" (X.env.qual ++ "<lambda>") params body scope (cloFrom X.env.cells scope.names []) pm c' ctv)]) σ H1 s1 := I1.pins_of fun p hp => by
    rcases List.mem_append.mp hp with hp | hp
    · exact I1.pin p (List.mem_append_right _ hp)
    · cases List.mem_singleton.mp hp
      exact ⟨hfo, hfn, nl, nfs, fun v z => by cases z⟩
  refine wpAny_mono (ha.run pos (pins ++ [(f, _)]) s1 σ H1 (fun vs H2 => ∃ (θ2 : List Addr) (st2 : Sto) (ds : List D), θ <+: θ2 ∧ Keep H1 H2 ∧ Rel (gx X TZ) θ2 st2 H2 ∧ RepVs X.K θ2 H2 ds vs ∧ r ρ st = .ok ds st2) I2 ⟨θ, st, ρ, R1, E1, ?_⟩)
    (fun us s2 ⟨vs, H2, I3, rr, θ2, st2, ds, p2, k2, R2, r2, e2⟩ => ?_) fun _ _ h => h
  · unfold afLamA at q
    cases e0 : r ρ st with
    | no => rw [e0] at q; exact q
    | ex c d s0 =>
      rw [e0] at q
      exact fun θ1 v H2 Ca dx p1 k1 => q θ1 v H2 Ca dx p1 (keep.trans k1)
    | ok ds s0 =>
      intro θ1 vs H2 p1 k1 R2 r1
      exact ⟨θ1, s0, ds, p1, k1, R2, r1, rfl⟩
  · unfold afLamA at q
    rw [e2] at q
    have q : ResF X TZ (k + 1) (true :: mask) W σ θ H (if ds.length = rest.length then .ok ([lamM ps.length n (js.map (slotM ρ)) mb], ds) st2 else .no) Q := q
    split at q
    · rename_i hl
      obtain ⟨e3, e4, _⟩ := I3.pin (f, _) (List.mem_append_right _ (List.mem_append_right _ (List.mem_singleton.mpr rfl)))
      have I4 : Inv X pins σ H2 s2 := I3.pins_of fun p hp => I3.pin p (List.mem_append_right _ (List.mem_append_left _ hp))
      have E2 := E1.step p2 k2
      refine ⟨.ref f :: vs, H2, I4, .cons rfl rr, q θ2 s2 (.ref f :: vs) H2 p2 (keep.trans k2) R2 ?_⟩
      refine ⟨_, [], f, vs, rfl, rfl, lam_callsM I4 (NdefX.Caps.made I4.ok h1 (NdefX.ndef_fr hfree) hjs) E2 e3 e4 (k2.code _ _ hc) (NdefX.nscope_by Sc) hn (fun us pm cv ctv hl => hb _ _ us pm cv ctv hl) (fun A outer s H E hr => hbody _ _ f c' A outer s H E hr), ?_⟩
      rw [hmask]
      exact argsR_plain hl r2
    · exact q.elim
end
/-! repr -/
def scal : D → Option PyData
  | .non => some .none
  | .bl b => some (.bool b)
  | .int i => some (.int i)
  | .str s => some (.str s)
  | _ => none
def reprM (ds : List D) (st : Sto) : Option (D × Sto) := match ds with
  | [d] => match scal d with
    | some p => if p.showable = true ∧ p.shown.length ≤ sizeLine then some (.str p.shown, st) else none
    | none => none
  | _ => none
section
variable {X : Cx} {TZ : Tabz}
theorem call_reprM : CallR X (.builtin "repr") (rC (gx X TZ) reprM) := by
  intro pins s σ H xs us Q I r ⟨θ, st, ds, hR, rr, d, s', e, q⟩
  unfold reprM at e
  split at e
  · split at e
    · rename_i d' p hp
      split at e
      · rename_i hs
        cases e
        obtain ⟨v, rfl, rv⟩ := rep_list1 rr
        obtain ⟨u, rfl, rx⟩ := Vals.one r
        have fin : ∀ t, EP X pins σ Q (.str p.shown t) { s with toks := s.toks + 1 } := fun t => ⟨.str _, H, I.tok _, ⟨_, rfl⟩, q θ _ H (List.prefix_refl _) (Keep.refl _) hR (rep_str.mpr rfl)⟩
        unfold scal at hp
        split at hp
        · cases hp
          cases rep_non.mp rv
          cases rx
          exact PySem.P.repr_of_none (by simpa only [PyData.shown] using fin _)
        · cases hp
          cases rep_bl.mp rv
          cases rx
          exact PySem.P.repr_of_bool (by simpa only [PyData.shown] using fin _)
        · cases hp
          cases rep_int.mp rv
          obtain ⟨t, rfl⟩ := rx
          exact PySem.P.repr_of_int (by simpa [PyData.showable] using hs.1) (by simpa only [PyData.shown] using fin _)
        · cases hp
          cases rep_str.mp rv
          obtain ⟨t, rfl⟩ := rx
          exact PySem.P.repr_of_str (by simpa only [PyData.shown] using fin _) (by simpa only [PyData.shown] using hs.2)
        · cases hp
      · cases e
    · cases e
  · cases e
end
section
variable {st : Sto} {Q : D → Sto → Prop}
theorem O_repr {d : D} {p : PyData} (h : scal d = some p) (h1 : p.showable = true) (h2 : p.shown.length ≤ sizeLine) (q : Q (.str p.shown) st) : Vc (lift (reprM [d] st)) Q := W_lift (by unfold reprM; simp only [h]; rw [if_pos ⟨h1, h2⟩]) q
end
end Rg

namespace Lw
open PySem PySem.Spec PyProof.Rows L2 Fs Rg
noncomputable def m_at_most_b1 : S := sRet (cOr (cOp isM (cVar 1) (cK .non)) (cAnd (cOp isNotM (cVar 0) (cK .non)) (cOp leM (cVar 0) (cVar 1))))
noncomputable def M_at_most : List Clo → Clo := runDef [false, false] 0 (fun _ => m_at_most_b1)
noncomputable def m_lesser_b1 : S := sRet (cIf (bTru (cCall 2 M_at_most (aCons (cVar 0) (aCons (cVar 1) aNil)))) (cVar 0) (cVar 1))
noncomputable def M_lesser : List Clo → Clo := runDef [false, false] 0 (fun _ => m_lesser_b1)
noncomputable def m_greater_b1 : S := sRet (cIf (bTru (cCall 2 M_at_most (aCons (cVar 0) (aCons (cVar 1) aNil)))) (cVar 1) (cVar 0))
noncomputable def M_greater : List Clo → Clo := runDef [false, false] 0 (fun _ => m_greater_b1)
noncomputable def m_is_number_b1 : S := sRet (cAnd (cIsi "int" (cVar 0)) (cNot (cIsi "bool" (cVar 0))))
noncomputable def M_is_number : List Clo → Clo := runDef [false] 0 (fun _ => m_is_number_b1)
noncomputable def m_number_between_b1 : S := sRet (cAnd (cCall 1 M_is_number (aCons (cVar 0) aNil)) (cChain leM leM (cVar 1) (cVar 0) (cVar 2)))
noncomputable def M_number_between : List Clo → Clo := runDef [false, false, false] 0 (fun _ => m_number_between_b1)
noncomputable def m_is_pair_b1 : S := sRet (cAnd (cIsi "tuple" (cVar 0)) (cOp eqM (cBi lenM (aCons (cVar 0) aNil)) (cK (.int 2))))
noncomputable def M_is_pair : List Clo → Clo := runDef [false] 0 (fun _ => m_is_pair_b1)
noncomputable def m_tuple_fault_for1_it (φ_fits : Clo) : MI := wArg enumM (aCons (cVar 0) aNil)
noncomputable def m_tuple_fault_for1_body (φ_fits : Clo) : S := sIf (bNot (bTru (cCallP φ_fits (aCons (cVar 5) aNil)))) (sRet (cVar 4)) sNext
noncomputable def m_tuple_fault_b3 (φ_fits : Clo) : S := sRet (cK .non)
noncomputable def m_tuple_fault_b2 (φ_fits : Clo) : S := sSeq (sFor (m_tuple_fault_for1_it φ_fits) (tT 2 (tsCons (tN 4) (tsCons (tN 5) tsNil))) (m_tuple_fault_for1_body φ_fits)) (m_tuple_fault_b3 φ_fits)
noncomputable def m_tuple_fault_b1 (φ_fits : Clo) : S := sSeq (sIf (bOr (bNot (bTru (cIsi "tuple" (cVar 0)))) (bNot (bVal (cChain leM leM (cVar 1) (cBi lenM (aCons (cVar 0) aNil)) (cVar 2))))) (sRet (cNeg (cK (.int 1)))) sNext) (m_tuple_fault_b2 φ_fits)
noncomputable def M_tuple_fault : List Clo → Clo := runDef [false, false, false, true] 2 (fun fs => match fs with | [φ_fits] => (m_tuple_fault_b1 φ_fits) | _ => fun _ _ => .no)
noncomputable def m_tuple_fits_b1 (φ_fits : Clo) : S := sRet (cOp isM (cCallF M_tuple_fault (afCons (cVar 0) (afCons (cVar 1) (afCons (cVar 2) (afSlot φ_fits))))) (cK .non))
noncomputable def M_tuple_fits : List Clo → Clo := runDef [false, false, false, true] 0 (fun fs => match fs with | [φ_fits] => (m_tuple_fits_b1 φ_fits) | _ => fun _ _ => .no)
noncomputable def m_numbers_fit_lam1 : C := cCall 3 M_number_between (aCons (cVar 0) (aCons (cK (.int 0)) (aCons (cVar 1) aNil)))
noncomputable def m_numbers_fit_b1 : S := sRet (cCallF M_tuple_fits (afCons (cVar 0) (afCons (cVar 1) (afCons (cVar 2) (afLam 1 0 [3] m_numbers_fit_lam1)))))
noncomputable def M_numbers_fit : List Clo → Clo := runDef [false, false, false, false] 0 (fun _ => m_numbers_fit_b1)
noncomputable def m_is_prime_while1_t : B := bVal (cOp leM (cOp mulM (cVar 1) (cVar 1)) (cVar 0))
noncomputable def m_is_prime_while1_body : S := sSeq (sIf (bVal (cOp eqM (cOp modM (cVar 0) (cVar 1)) (cK (.int 0)))) (sRet (cK (.bl false))) sNext) (sAug 1 iaddM (cK (.int 1)))
noncomputable def m_is_prime_b4 : S := sRet (cK (.bl true))
noncomputable def m_is_prime_b3 : S := sSeq (sWhile m_is_prime_while1_t m_is_prime_while1_body) m_is_prime_b4
noncomputable def m_is_prime_b2 : S := sSeq (sAsg (cK (.int 2)) (tN 1)) m_is_prime_b3
noncomputable def m_is_prime_b1 : S := sSeq (sIf (bNot (bTru (cCall 3 M_number_between (aCons (cVar 0) (aCons (cK (.int 2)) (aCons (cK (.int 65521)) aNil)))))) (sRet (cK (.bl false))) sNext) m_is_prime_b2
noncomputable def M_is_prime : List Clo → Clo := runDef [false] 1 (fun _ => m_is_prime_b1)
noncomputable def m_points_fit_b1 : S := sRet (cAnd (cCall 4 M_numbers_fit (aCons (cVar 1) (aCons (cK (.int 1)) (aCons (cK (.int 8)) (aCons (cVar 0) aNil))))) (cOp eqM (cBi lenSetM (aCons (cVar 1) aNil)) (cBi lenM (aCons (cVar 1) aNil))))
noncomputable def M_points_fit : List Clo → Clo := runDef [false, false] 0 (fun _ => m_points_fit_b1)
noncomputable def m_ground_fault_b5 : S := sRet (cK .non)
noncomputable def m_ground_fault_b4 : S := sSeq (sIf (bNot (bTru (cCall 2 M_points_fit (aCons (cOp ixM (cVar 0) (cK (.int 0))) (aCons (cOp ixM (cVar 0) (cK (.int 2))) aNil))))) (sRet (cK (.int 2))) sNext) m_ground_fault_b5
noncomputable def m_ground_fault_b3 : S := sSeq (sIf (bNot (bTru (cCall 3 M_number_between (aCons (cOp ixM (cVar 0) (cK (.int 1))) (aCons (cK (.int 1)) (aCons (cK (.int 12)) aNil)))))) (sRet (cK (.int 1))) sNext) m_ground_fault_b4
noncomputable def m_ground_fault_b2 : S := sSeq (sIf (bNot (bTru (cCall 1 M_is_prime (aCons (cOp ixM (cVar 0) (cK (.int 0))) aNil)))) (sRet (cK (.int 0))) sNext) m_ground_fault_b3
noncomputable def m_ground_fault_b1 : S := sSeq (sIf (bOr (bNot (bTru (cIsi "tuple" (cVar 0)))) (bVal (cOp neM (cBi lenM (aCons (cVar 0) aNil)) (cK (.int 3))))) (sRet (cNeg (cK (.int 1)))) sNext) m_ground_fault_b2
noncomputable def M_ground_fault : List Clo → Clo := runDef [false] 0 (fun _ => m_ground_fault_b1)
noncomputable def m_made_ground_b3 : S := sRet (cVar 0)
noncomputable def m_made_ground_b2 : S := sSeq (sIf (bVal (cOp isNotM (cVar 1) (cK .non))) (sRaise "BadGround" (aCons (cVar 1) aNil)) sNext) m_made_ground_b3
noncomputable def m_made_ground_b1 : S := sSeq (sAsg (cCall 1 M_ground_fault (aCons (cVar 0) aNil)) (tN 1)) m_made_ground_b2
noncomputable def M_made_ground : List Clo → Clo := runDef [false] 1 (fun _ => m_made_ground_b1)
noncomputable def m_shelves_b1 : S := sRet (cBi lenM (aCons (cOp ixM (cCall 1 M_made_ground (aCons (cVar 0) aNil)) (cK (.int 2))) aNil))
noncomputable def M_shelves : List Clo → Clo := runDef [false] 0 (fun _ => m_shelves_b1)
noncomputable def m_is_batch_number_b1 : S := sRet (cCall 3 M_number_between (aCons (cVar 0) (aCons (cK (.int 0)) (aCons (cOp subM (cK (.int 64)) (cK (.int 1))) aNil))))
noncomputable def M_is_batch_number : List Clo → Clo := runDef [false] 0 (fun _ => m_is_batch_number_b1)
noncomputable def m_made_batch_number_b2 : S := sRet (cVar 0)
noncomputable def m_made_batch_number_b1 : S := sSeq (sIf (bNot (bTru (cCall 1 M_is_batch_number (aCons (cVar 0) aNil)))) (sRaise "BadNumber" (aCons (cVar 0) aNil)) sNext) m_made_batch_number_b2
noncomputable def M_made_batch_number : List Clo → Clo := runDef [false] 0 (fun _ => m_made_batch_number_b1)
noncomputable def m_is_tape_b1 : S := sRet (cCallF M_tuple_fits (afCons (cVar 0) (afCons (cK (.int 0)) (afCons (cK (.int 1024)) (afDef M_is_batch_number)))))
noncomputable def M_is_tape : List Clo → Clo := runDef [false] 0 (fun _ => m_is_tape_b1)
noncomputable def m_weaving_fault_b2 : S := sRet (cCallF M_tuple_fault (afCons (cVar 1) (afCons (cVar 2) (afCons (cVar 2) (afDef M_is_tape)))))
noncomputable def m_weaving_fault_b1 : S := sSeq (sAsg (cCall 1 M_shelves (aCons (cVar 0) aNil)) (tN 2)) m_weaving_fault_b2
noncomputable def M_weaving_fault : List Clo → Clo := runDef [false, false] 1 (fun _ => m_weaving_fault_b1)
noncomputable def m_made_weaving_b3 : S := sRet (cVar 1)
noncomputable def m_made_weaving_b2 : S := sSeq (sIf (bVal (cOp isNotM (cVar 2) (cK .non))) (sRaise "BadWeaving" (aCons (cVar 2) aNil)) sNext) m_made_weaving_b3
noncomputable def m_made_weaving_b1 : S := sSeq (sAsg (cCall 2 M_weaving_fault (aCons (cVar 0) (aCons (cVar 1) aNil))) (tN 2)) m_made_weaving_b2
noncomputable def M_made_weaving : List Clo → Clo := runDef [false, false] 1 (fun _ => m_made_weaving_b1)
noncomputable def m_is_bound_b1 : S := sRet (cOr (cOp isM (cVar 0) (cK .non)) (cCall 3 M_number_between (aCons (cVar 0) (aCons (cK (.int 0)) (aCons (cK (.int 64)) aNil)))))
noncomputable def M_is_bound : List Clo → Clo := runDef [false] 0 (fun _ => m_is_bound_b1)
noncomputable def m_is_fate_b1 : S := sRet (cAnd (cCall 1 M_is_pair (aCons (cVar 0) aNil)) (cAnd (cCall 1 M_is_bound (aCons (cOp ixM (cVar 0) (cK (.int 0))) aNil)) (cCall 1 M_is_bound (aCons (cOp ixM (cVar 0) (cK (.int 1))) aNil))))
noncomputable def M_is_fate : List Clo → Clo := runDef [false] 0 (fun _ => m_is_fate_b1)
noncomputable def m_is_many_b1 : S := sRet (cCall 3 M_number_between (aCons (cVar 0) (aCons (cK (.int 1)) (aCons (cK (.int 8)) aNil))))
noncomputable def M_is_many : List Clo → Clo := runDef [false] 0 (fun _ => m_is_many_b1)
noncomputable def m_row_fits_b1 : S := sRet (cCallF M_tuple_fits (afCons (cVar 1) (afCons (cVar 0) (afCons (cVar 0) (afDef M_is_fate)))))
noncomputable def M_row_fits : List Clo → Clo := runDef [false, false] 0 (fun _ => m_row_fits_b1)
noncomputable def m_made_book_lam1 : C := cCall 2 M_row_fits (aCons (cVar 1) (aCons (cVar 0) aNil))
noncomputable def m_made_book_b6 : S := sRet (cVar 1)
noncomputable def m_made_book_b5 : S := sSeq (sIf (bVal (cOp isNotM (cVar 2) (cK .non))) (sRaise "BadBook" (aCons (cVar 2) aNil)) sNext) m_made_book_b6
noncomputable def m_made_book_b4 : S := sSeq (sAsg (cCallF M_tuple_fault (afCons (cVar 1) (afCons (cK (.int 1)) (afCons (cK (.int 24)) (afLam 1 0 [0] m_made_book_lam1))))) (tN 2)) m_made_book_b5
noncomputable def m_made_book_b3 : S := sSeq (sIf (bVal (cOp gtM (cBi lenM (aCons (cVar 1) aNil)) (cK (.int 24)))) (sRaise "TooMany" (aCons (cBi lenM (aCons (cVar 1) aNil)) aNil)) sNext) m_made_book_b4
noncomputable def m_made_book_b2 : S := sSeq (sIf (bOr (bNot (bTru (cIsi "tuple" (cVar 1)))) (bNot (bTru (cVar 1)))) (sRaise "BadBook" (aCons (cNeg (cK (.int 1))) aNil)) sNext) m_made_book_b3
noncomputable def m_made_book_b1 : S := sSeq (sIf (bNot (bTru (cCall 1 M_is_many (aCons (cVar 0) aNil)))) (sRaise "BadMany" (aCons (cVar 0) aNil)) sNext) m_made_book_b2
noncomputable def M_made_book : List Clo → Clo := runDef [false, false] 1 (fun _ => m_made_book_b1)
noncomputable def m_is_told_b1 : S := sRet (cOr (cOp isM (cVar 0) (cK (.bl true))) (cOp isM (cVar 0) (cK (.bl false))))
noncomputable def M_is_told : List Clo → Clo := runDef [false] 0 (fun _ => m_is_told_b1)
noncomputable def m_check_rules_b2 : S := sIf (bNot (bTru (cCall 1 M_is_told (aCons (cVar 2) aNil)))) (sRaise "BadTold" (aCons (cVar 2) aNil)) sNext
noncomputable def m_check_rules_b1 : S := sSeq (sExpr (cCall 2 M_made_book (aCons (cVar 0) (aCons (cVar 1) aNil)))) m_check_rules_b2
noncomputable def M_check_rules : List Clo → Clo := runDef [false, false, false] 0 (fun _ => m_check_rules_b1)
noncomputable def m_check_manner_b1 : S := sExpr (cCall 3 M_check_rules (aCons (cCall 1 M_shelves (aCons (cVar 0) aNil)) (aCons (cVar 1) (aCons (cVar 2) aNil))))
noncomputable def M_check_manner : List Clo → Clo := runDef [false, false, false] 0 (fun _ => m_check_manner_b1)
noncomputable def m_check_written_b3 : S := sExpr (cCall 1 M_made_batch_number (aCons (cVar 4) aNil))
noncomputable def m_check_written_b2 : S := sSeq (sExpr (cCall 2 M_made_weaving (aCons (cVar 0) (aCons (cVar 3) aNil)))) m_check_written_b3
noncomputable def m_check_written_b1 : S := sSeq (sExpr (cCall 3 M_check_manner (aCons (cVar 0) (aCons (cVar 1) (aCons (cVar 2) aNil))))) m_check_written_b2
noncomputable def M_check_written : List Clo → Clo := runDef [false, false, false, false, false] 0 (fun _ => m_check_written_b1)
noncomputable def m_bounds_of_b2 : S := sRet (cTup (aCons (cVar 3) (aCons (cCall 2 M_greater (aCons (cOp ixM (cVar 0) (cK (.int 1))) (aCons (cOp ixM (cVar 1) (cK (.int 1))) aNil))) aNil)))
noncomputable def m_bounds_of_b1 : S := sSeq (sAsg (cIf (bTru (cVar 2)) (cCall 2 M_lesser (aCons (cOp ixM (cVar 0) (cK (.int 0))) (aCons (cOp ixM (cVar 1) (cK (.int 0))) aNil))) (cOp ixM (cVar 0) (cK (.int 0)))) (tN 3)) m_bounds_of_b2
noncomputable def M_bounds_of : List Clo → Clo := runDef [false, false, false] 1 (fun _ => m_bounds_of_b1)
noncomputable def m_delay_of_b2 : S := sRet (cIf (bOr (bVal (cOp isM (cVar 1) (cK .non))) (bVal (cOp isM (cVar 2) (cK .non)))) (cK .non) (cOp addM (cVar 1) (cVar 2)))
noncomputable def m_delay_of_b1 : S := sSeq (sAsg (cVar 0) (tT 2 (tsCons (tN 1) (tsCons (tN 2) tsNil)))) m_delay_of_b2
noncomputable def M_delay_of : List Clo → Clo := runDef [false] 2 (fun _ => m_delay_of_b1)
noncomputable def m_head_length_b2 : S := sRet (cIf (bVal (cOp isM (cVar 2) (cK .non))) (cK (.int 0)) (cBi max2M (aCons (cK (.int 0)) (aCons (cOp subM (cVar 1) (cVar 2)) aNil))))
noncomputable def m_head_length_b1 : S := sSeq (sAsg (cCall 1 M_delay_of (aCons (cVar 0) aNil)) (tN 2)) m_head_length_b2
noncomputable def M_head_length : List Clo → Clo := runDef [false, false] 1 (fun _ => m_head_length_b1)
noncomputable def m_heads_of_lc1_it : MI := wArg zip3M (aCons (cVar 0) (aCons (cVar 1) (aCons (cVar 3) aNil)))
noncomputable def m_heads_of_lc1_elt : C := cCall 2 M_head_length (aCons (cCall 3 M_bounds_of (aCons (cVar 4) (aCons (cVar 5) (aCons (cVar 2) aNil)))) (aCons (cBi lenM (aCons (cVar 6) aNil)) aNil))
noncomputable def m_heads_of_b1 : S := sRet (cBi tupleWM (aCons (cLc m_heads_of_lc1_it [4, 5, 6] (tT 3 (tsCons (tN 4) (tsCons (tN 5) (tsCons (tN 6) tsNil)))) bYes m_heads_of_lc1_elt) aNil))
noncomputable def M_heads_of : List Clo → Clo := runDef [false, false, false, false] 3 (fun _ => m_heads_of_b1)
noncomputable def m_counts_of_for2_it : MI := wSeq (cVar 3)
noncomputable def m_counts_of_for2_body : S := sExpr (cMethL appendM (cVar 4) (aCons (cOp addM (cOp ixM (cVar 4) (cNeg (cK (.int 1)))) (cIf (bVal (cOp eqM (cVar 5) (cVar 1))) (cK (.int 1)) (cK (.int 0)))) aNil))
noncomputable def m_counts_of_for1_it : MI := wSeq (cVar 0)
noncomputable def m_counts_of_for1_body : S := sSeq (sAsg (cLst (aCons (cK (.int 0)) aNil)) (tN 4)) (sSeq (sFor m_counts_of_for2_it (tN 5) m_counts_of_for2_body) (sExpr (cMethL appendM (cVar 2) (aCons (cVar 4) aNil))))
noncomputable def m_counts_of_b3 : S := sRet (cVar 2)
noncomputable def m_counts_of_b2 : S := sSeq (sFor m_counts_of_for1_it (tN 3) m_counts_of_for1_body) m_counts_of_b3
noncomputable def m_counts_of_b1 : S := sSeq (sAsg (cLst aNil) (tN 2)) m_counts_of_b2
noncomputable def M_counts_of : List Clo → Clo := runDef [false, false] 4 (fun _ => m_counts_of_b1)
noncomputable def m_many_in_lc1_it : MI := wArg zipKM (aCons (cVar 1) (aCons (cVar 0) aNil))
noncomputable def m_many_in_lc1_elt : C := cOp ixM (cVar 2) (cVar 3)
noncomputable def m_many_in_b1 : S := sRet (cBi sumM (aCons (cLc m_many_in_lc1_it [2, 3] (tT 2 (tsCons (tN 2) (tsCons (tN 3) tsNil))) bYes m_many_in_lc1_elt) aNil))
noncomputable def M_many_in : List Clo → Clo := runDef [false, false] 2 (fun _ => m_many_in_b1)
noncomputable def m_unlike_heads_for2_it : MI := wSeq (cVar 0)
noncomputable def m_unlike_heads_for2_body : S := sAsg (cK (.bl true)) (tSD (cVar 3) (cCall 4 M_heads_of (aCons (cVar 4) (aCons (cVar 5) (aCons (cVar 1) (aCons (cVar 2) aNil))))))
noncomputable def m_unlike_heads_for1_it : MI := wSeq (cVar 0)
noncomputable def m_unlike_heads_for1_body : S := sFor m_unlike_heads_for2_it (tN 5) m_unlike_heads_for2_body
noncomputable def m_unlike_heads_b3 : S := sRet (cBi listDM (aCons (cVar 3) aNil))
noncomputable def m_unlike_heads_b2 : S := sSeq (sFor m_unlike_heads_for1_it (tN 4) m_unlike_heads_for1_body) m_unlike_heads_b3
noncomputable def m_unlike_heads_b1 : S := sSeq (sAsg cDctT (tN 3)) m_unlike_heads_b2
noncomputable def M_unlike_heads : List Clo → Clo := runDef [false, false, false] 3 (fun _ => m_unlike_heads_b1)
noncomputable def m_reaches_lc1_it : MI := wSeq (cVar 1)
noncomputable def m_reaches_lc1_elt : C := cOp geM (cCall 2 M_many_in (aCons (cVar 5) (aCons (cVar 4) aNil))) (cVar 0)
noncomputable def m_reaches_b2 : S := sRet (cBi allM (aCons (cLc m_reaches_lc1_it [5] (tN 5) bYes m_reaches_lc1_elt) aNil))
noncomputable def m_reaches_b1 : S := sSeq (sAsg (cCall 2 M_counts_of (aCons (cVar 2) (aCons (cVar 3) aNil))) (tN 4)) m_reaches_b2
noncomputable def M_reaches : List Clo → Clo := runDef [false, false, false, false] 2 (fun _ => m_reaches_b1)
noncomputable def m_sums_lc1_it : MI := wSeq (cVar 1)
noncomputable def m_sums_lc1_elt : C := cCall 2 M_many_in (aCons (cCall 4 M_heads_of (aCons (cVar 6) (aCons (cVar 7) (aCons (cVar 2) (aCons (cVar 3) aNil))))) (aCons (cVar 5) aNil))
noncomputable def m_sums_lc2_it : MI := wSeq (cVar 1)
noncomputable def m_sums_lc2_elt : C := cBi tupleM (aCons (cLc m_sums_lc1_it [7] (tN 7) bYes m_sums_lc1_elt) aNil)
noncomputable def m_sums_b3 : S := sRet (cBi tupleM (aCons (cLc m_sums_lc2_it [6] (tN 6) bYes m_sums_lc2_elt) aNil))
noncomputable def m_sums_b2 : S := sSeq (sAsg (cCall 2 M_counts_of (aCons (cVar 3) (aCons (cVar 4) aNil))) (tN 5)) m_sums_b3
noncomputable def m_sums_b1 : S := sSeq (sExpr (cCall 5 M_check_written (aCons (cVar 0) (aCons (cVar 1) (aCons (cVar 2) (aCons (cVar 3) (aCons (cVar 4) aNil))))))) m_sums_b2
noncomputable def M_sums : List Clo → Clo := runDef [false, false, false, false, false] 3 (fun _ => m_sums_b1)
noncomputable def m_safe_b2 : S := sRet (cCall 4 M_reaches (aCons (cOp ixM (cVar 0) (cK (.int 1))) (aCons (cCall 3 M_unlike_heads (aCons (cVar 1) (aCons (cVar 2) (aCons (cVar 3) aNil)))) (aCons (cVar 3) (aCons (cVar 4) aNil)))))
noncomputable def m_safe_b1 : S := sSeq (sExpr (cCall 5 M_check_written (aCons (cVar 0) (aCons (cVar 1) (aCons (cVar 2) (aCons (cVar 3) (aCons (cVar 4) aNil))))))) m_safe_b2
noncomputable def M_safe : List Clo → Clo := runDef [false, false, false, false, false] 0 (fun _ => m_safe_b1)
noncomputable def m_done_lc1_it : MI := wArg rangeM1 (aCons (cK (.int 64)) aNil)
noncomputable def m_done_lc1_elt : C := cVar 5
noncomputable def m_done_lc1_if : B := bTru (cCall 4 M_reaches (aCons (cOp ixM (cVar 0) (cK (.int 1))) (aCons (cVar 4) (aCons (cVar 3) (aCons (cVar 5) aNil)))))
noncomputable def m_done_b4 : S := sRet (cBi tupleM (aCons (cLc m_done_lc1_it [5] (tN 5) m_done_lc1_if m_done_lc1_elt) aNil))
noncomputable def m_done_b3 : S := sSeq (sAsg (cCall 3 M_unlike_heads (aCons (cVar 1) (aCons (cVar 2) (aCons (cVar 3) aNil)))) (tN 4)) m_done_b4
noncomputable def m_done_b2 : S := sSeq (sExpr (cCall 2 M_made_weaving (aCons (cVar 0) (aCons (cVar 3) aNil)))) m_done_b3
noncomputable def m_done_b1 : S := sSeq (sExpr (cCall 3 M_check_manner (aCons (cVar 0) (aCons (cVar 1) (aCons (cVar 2) aNil))))) m_done_b2
noncomputable def M_done : List Clo → Clo := runDef [false, false, false, false] 2 (fun _ => m_done_b1)
noncomputable def m_leave_a_shelf_lc1_it : MI := wArg zipKM (aCons (cVar 0) (aCons (cVar 1) aNil))
noncomputable def m_leave_a_shelf_lc1_elt : C := cOp notInM (cK .non) (cCall 3 M_bounds_of (aCons (cVar 3) (aCons (cVar 4) (aCons (cVar 2) aNil))))
noncomputable def m_leave_a_shelf_b1 : S := sRet (cBi anyM (aCons (cLc m_leave_a_shelf_lc1_it [3, 4] (tT 2 (tsCons (tN 3) (tsCons (tN 4) tsNil))) bYes m_leave_a_shelf_lc1_elt) aNil))
noncomputable def M_leave_a_shelf : List Clo → Clo := runDef [false, false, false] 2 (fun _ => m_leave_a_shelf_b1)
noncomputable def m_bearable_lc1_it : MI := wSeq (cVar 1)
noncomputable def m_bearable_lc1_it2 : MI := wSeq (cVar 1)
noncomputable def m_bearable_lc1_elt : C := cCall 3 M_leave_a_shelf (aCons (cVar 3) (aCons (cVar 4) (aCons (cVar 2) aNil)))
noncomputable def m_bearable_b2 : S := sRet (cBi allM (aCons (cLc2 m_bearable_lc1_it [3, 4] (tN 3) bYes m_bearable_lc1_it2 [4] (tN 4) bYes m_bearable_lc1_elt) aNil))
noncomputable def m_bearable_b1 : S := sSeq (sExpr (cCall 3 M_check_manner (aCons (cVar 0) (aCons (cVar 1) (aCons (cVar 2) aNil))))) m_bearable_b2
noncomputable def M_bearable : List Clo → Clo := runDef [false, false, false] 2 (fun _ => m_bearable_b1)
noncomputable def m_batch_fault_lam1 : C := cCall 3 M_number_between (aCons (cVar 0) (aCons (cK (.int 0)) (aCons (cOp subM (cVar 1) (cK (.int 1))) aNil)))
noncomputable def m_batch_fault_b2 : S := sRet (cCallF M_tuple_fault (afCons (cVar 1) (afCons (cVar 3) (afCons (cVar 3) (afLam 1 0 [2] m_batch_fault_lam1)))))
noncomputable def m_batch_fault_b1 : S := sSeq (sAsg (cVar 0) (tT 3 (tsCons (tN 2) (tsCons (tN 3) (tsCons (tN 4) tsNil))))) m_batch_fault_b2
noncomputable def M_batch_fault : List Clo → Clo := runDef [false, false] 3 (fun _ => m_batch_fault_b1)
noncomputable def m_made_batch_b3 : S := sRet (cVar 1)
noncomputable def m_made_batch_b2 : S := sSeq (sIf (bVal (cOp isNotM (cVar 2) (cK .non))) (sRaise "BadBatch" (aCons (cVar 2) aNil)) sNext) m_made_batch_b3
noncomputable def m_made_batch_b1 : S := sSeq (sAsg (cCall 2 M_batch_fault (aCons (cCall 1 M_made_ground (aCons (cVar 0) aNil)) (aCons (cVar 1) aNil))) (tN 2)) m_made_batch_b2
noncomputable def M_made_batch : List Clo → Clo := runDef [false, false] 1 (fun _ => m_made_batch_b1)
noncomputable def m_powers_for1_it : MI := wArg rangeM1 (aCons (cOp subM (cVar 2) (cK (.int 1))) aNil)
noncomputable def m_powers_for1_body : S := sExpr (cMethL appendM (cVar 3) (aCons (cOp modM (cOp mulM (cOp ixM (cVar 3) (cNeg (cK (.int 1)))) (cVar 1)) (cVar 0)) aNil))
noncomputable def m_powers_b3 : S := sRet (cVar 3)
noncomputable def m_powers_b2 : S := sSeq (sFor m_powers_for1_it (tN 4) m_powers_for1_body) m_powers_b3
noncomputable def m_powers_b1 : S := sSeq (sAsg (cLst (aCons (cK (.int 1)) aNil)) (tN 3)) m_powers_b2
noncomputable def M_powers : List Clo → Clo := runDef [false, false, false] 2 (fun _ => m_powers_b1)
noncomputable def m_later_weights_for1_it : MI := wSeq (cSl (cVar 2) poNone (poSome (cNeg (cK (.int 1)))))
noncomputable def m_later_weights_for1_body : S := sExpr (cMethL appendM (cVar 3) (aCons (cOp modM (cOp addM (cOp mulM (cVar 1) (cOp ixM (cVar 3) (cNeg (cK (.int 1))))) (cVar 4)) (cVar 0)) aNil))
noncomputable def m_later_weights_b3 : S := sRet (cVar 3)
noncomputable def m_later_weights_b2 : S := sSeq (sFor m_later_weights_for1_it (tN 4) m_later_weights_for1_body) m_later_weights_b3
noncomputable def m_later_weights_b1 : S := sSeq (sAsg (cLst (aCons (cK (.int 0)) aNil)) (tN 3)) m_later_weights_b2
noncomputable def M_later_weights : List Clo → Clo := runDef [false, false, false] 2 (fun _ => m_later_weights_b1)
noncomputable def m_value_weights_lc1_it : MI := wArg rangeM1 (aCons (cVar 1) aNil)
noncomputable def m_value_weights_lc1_elt : C := cIf (bVal (cOp eqM (cVar 6) (cOp subM (cOp subM (cVar 1) (cK (.int 1))) (cVar 3)))) (cK (.int 1)) (cK (.int 0))
noncomputable def m_value_weights_for1_it : MI := wArg rangeM1 (aCons (cVar 3) aNil)
noncomputable def m_value_weights_for1_body : S := sAsg (cCall 3 M_later_weights (aCons (cVar 0) (aCons (cVar 2) (aCons (cVar 4) aNil)))) (tN 4)
noncomputable def m_value_weights_b5 : S := sRet (cBi tupleM (aCons (cVar 4) aNil))
noncomputable def m_value_weights_b4 : S := sSeq (sFor m_value_weights_for1_it (tN 5) m_value_weights_for1_body) m_value_weights_b5
noncomputable def m_value_weights_b3 : S := sSeq (sAsg (cCall 3 M_powers (aCons (cVar 0) (aCons (cVar 2) (aCons (cVar 1) aNil)))) (tN 4)) m_value_weights_b4
noncomputable def m_value_weights_b2 : S := sSeq (sIf (bVal (cOp geM (cVar 3) (cVar 1))) (sRet (cOp mulM (cTup (aCons (cK (.int 0)) aNil)) (cVar 1))) sNext) m_value_weights_b3
noncomputable def m_value_weights_b1 : S := sSeq (sIf (bVal (cOp eqM (cVar 2) (cVar 0))) (sRet (cBi tupleM (aCons (cLc m_value_weights_lc1_it [6] (tN 6) bYes m_value_weights_lc1_elt) aNil))) sNext) m_value_weights_b2
noncomputable def M_value_weights : List Clo → Clo := runDef [false, false, false, false] 3 (fun _ => m_value_weights_b1)
noncomputable def m_value_lc1_it : MI := wArg zipKM (aCons (cVar 1) (aCons (cVar 4) aNil))
noncomputable def m_value_lc1_elt : C := cOp mulM (cVar 5) (cVar 6)
noncomputable def m_value_b2 : S := sRet (cOp modM (cBi sumM (aCons (cLc m_value_lc1_it [5, 6] (tT 2 (tsCons (tN 5) (tsCons (tN 6) tsNil))) bYes m_value_lc1_elt) aNil)) (cVar 0))
noncomputable def m_value_b1 : S := sSeq (sAsg (cCall 4 M_value_weights (aCons (cVar 0) (aCons (cBi lenM (aCons (cVar 1) aNil)) (aCons (cVar 2) (aCons (cVar 3) aNil))))) (tN 4)) m_value_b2
noncomputable def M_value : List Clo → Clo := runDef [false, false, false, false] 3 (fun _ => m_value_b1)
noncomputable def m_shelf_fits_b1 : S := sRet (cCall 3 M_number_between (aCons (cVar 1) (aCons (cK (.int 0)) (aCons (cOp subM (cBi lenM (aCons (cOp ixM (cVar 0) (cK (.int 2))) aNil)) (cK (.int 1))) aNil))))
noncomputable def M_shelf_fits : List Clo → Clo := runDef [false, false] 0 (fun _ => m_shelf_fits_b1)
noncomputable def m_made_shelf_b2 : S := sRet (cVar 1)
noncomputable def m_made_shelf_b1 : S := sSeq (sIf (bNot (bTru (cCall 2 M_shelf_fits (aCons (cVar 0) (aCons (cVar 1) aNil))))) (sRaise "BadShelf" (aCons (cVar 1) aNil)) sNext) m_made_shelf_b2
noncomputable def M_made_shelf : List Clo → Clo := runDef [false, false] 0 (fun _ => m_made_shelf_b1)
noncomputable def m_point_of_b1 : S := sRet (cOp ixM (cOp ixM (cVar 0) (cK (.int 2))) (cCall 2 M_made_shelf (aCons (cVar 0) (aCons (cVar 1) aNil))))
noncomputable def M_point_of : List Clo → Clo := runDef [false, false] 0 (fun _ => m_point_of_b1)
noncomputable def m_row_lc1_it : MI := wArg rangeM1 (aCons (cVar 3) aNil)
noncomputable def m_row_lc1_elt : C := cCall 4 M_value (aCons (cOp ixM (cVar 0) (cK (.int 0))) (aCons (cVar 1) (aCons (cVar 4) (aCons (cVar 5) aNil))))
noncomputable def m_row_b4 : S := sRet (cBi tupleM (aCons (cLc m_row_lc1_it [5] (tN 5) bYes m_row_lc1_elt) aNil))
noncomputable def m_row_b3 : S := sSeq (sIf (bNot (bTru (cCall 3 M_number_between (aCons (cVar 3) (aCons (cK (.int 0)) (aCons (cK (.int 1024)) aNil)))))) (sRaise "BadPlace" (aCons (cVar 3) aNil)) sNext) m_row_b4
noncomputable def m_row_b2 : S := sSeq (sAsg (cCall 2 M_point_of (aCons (cVar 0) (aCons (cVar 2) aNil))) (tN 4)) m_row_b3
noncomputable def m_row_b1 : S := sSeq (sExpr (cCall 2 M_made_batch (aCons (cVar 0) (aCons (cVar 1) aNil)))) m_row_b2
noncomputable def M_row : List Clo → Clo := runDef [false, false, false, false] 2 (fun _ => m_row_b1)
noncomputable def m_cell_b4 : S := sRet (cCall 4 M_value (aCons (cOp ixM (cVar 0) (cK (.int 0))) (aCons (cVar 1) (aCons (cVar 4) (aCons (cVar 3) aNil)))))
noncomputable def m_cell_b3 : S := sSeq (sIf (bNot (bTru (cCall 3 M_number_between (aCons (cVar 3) (aCons (cK (.int 0)) (aCons (cOp subM (cK (.int 1024)) (cK (.int 1))) aNil)))))) (sRaise "BadPlace" (aCons (cVar 3) aNil)) sNext) m_cell_b4
noncomputable def m_cell_b2 : S := sSeq (sAsg (cCall 2 M_point_of (aCons (cVar 0) (aCons (cVar 2) aNil))) (tN 4)) m_cell_b3
noncomputable def m_cell_b1 : S := sSeq (sExpr (cCall 2 M_made_batch (aCons (cVar 0) (aCons (cVar 1) aNil)))) m_cell_b2
noncomputable def M_cell : List Clo → Clo := runDef [false, false, false, false] 1 (fun _ => m_cell_b1)
noncomputable def m_inverse_while1_t : B := bVal (cOp gtM (cVar 3) (cK (.int 1)))
noncomputable def m_inverse_while1_body : S := sSeq (sAsg (cOp divM (cVar 2) (cVar 3)) (tN 6)) (sSeq (sPar 2 3 (aCons (cVar 3) (aCons (cOp subM (cVar 2) (cOp mulM (cVar 6) (cVar 3))) aNil))) (sPar 4 5 (aCons (cVar 5) (aCons (cOp subM (cVar 4) (cOp mulM (cVar 6) (cVar 5))) aNil))))
noncomputable def m_inverse_b5 : S := sRet (cOp modM (cVar 5) (cVar 1))
noncomputable def m_inverse_b4 : S := sSeq (sWhile m_inverse_while1_t m_inverse_while1_body) m_inverse_b5
noncomputable def m_inverse_b3 : S := sSeq (sAsg (cTup (aCons (cK (.int 0)) (aCons (cK (.int 1)) aNil))) (tT 2 (tsCons (tN 4) (tsCons (tN 5) tsNil)))) m_inverse_b4
noncomputable def m_inverse_b2 : S := sSeq (sIf (bVal (cOp eqM (cVar 3) (cK (.int 0)))) (sRaise "NoInverse" (aCons (cVar 0) aNil)) sNext) m_inverse_b3
noncomputable def m_inverse_b1 : S := sSeq (sPar 2 3 (aCons (cVar 1) (aCons (cOp modM (cVar 0) (cVar 1)) aNil))) m_inverse_b2
noncomputable def M_inverse : List Clo → Clo := runDef [false, false] 5 (fun _ => m_inverse_b1)
noncomputable def m_made_lengths_lam1 : C := cCall 3 M_number_between (aCons (cVar 0) (aCons (cK (.int 0)) (aCons (cK (.int 1024)) aNil)))
noncomputable def m_made_lengths_b4 : S := sRet (cVar 1)
noncomputable def m_made_lengths_b3 : S := sSeq (sIf (bVal (cOp isNotM (cVar 3) (cK .non))) (sRaise "BadLengths" (aCons (cVar 3) aNil)) sNext) m_made_lengths_b4
noncomputable def m_made_lengths_b2 : S := sSeq (sAsg (cCallF M_tuple_fault (afCons (cVar 1) (afCons (cVar 2) (afCons (cVar 2) (afLam 1 0 [] m_made_lengths_lam1))))) (tN 3)) m_made_lengths_b3
noncomputable def m_made_lengths_b1 : S := sSeq (sAsg (cCall 1 M_shelves (aCons (cVar 0) aNil)) (tN 2)) m_made_lengths_b2
noncomputable def M_made_lengths : List Clo → Clo := runDef [false, false] 2 (fun _ => m_made_lengths_b1)
noncomputable def m_times_for2_it : MI := wArg enumM (aCons (cVar 2) aNil)
noncomputable def m_times_for2_body : S := sAsg (cOp modM (cOp addM (cOp ixM (cVar 3) (cOp addM (cVar 4) (cVar 6))) (cOp mulM (cVar 5) (cVar 7))) (cVar 0)) (tS (cVar 3) (cOp addM (cVar 4) (cVar 6)))
noncomputable def m_times_for1_it : MI := wArg enumM (aCons (cVar 1) aNil)
noncomputable def m_times_for1_body : S := sFor m_times_for2_it (tT 2 (tsCons (tN 6) (tsCons (tN 7) tsNil))) m_times_for2_body
noncomputable def m_times_b3 : S := sRet (cBi tupleM (aCons (cVar 3) aNil))
noncomputable def m_times_b2 : S := sSeq (sFor m_times_for1_it (tT 2 (tsCons (tN 4) (tsCons (tN 5) tsNil))) m_times_for1_body) m_times_b3
noncomputable def m_times_b1 : S := sSeq (sAsg (cOp mulM (cLst (aCons (cK (.int 0)) aNil)) (cOp subM (cOp addM (cBi lenM (aCons (cVar 1) aNil)) (cBi lenM (aCons (cVar 2) aNil))) (cK (.int 1)))) (tN 3)) m_times_b2
noncomputable def M_times : List Clo → Clo := runDef [false, false, false] 5 (fun _ => m_times_b1)
noncomputable def m_line_b2 : S := sRet (cTup (aCons (cOp modM (cOp subM (cK (.int 0)) (cVar 1)) (cVar 0)) (aCons (cK (.int 1)) aNil)))
noncomputable def m_line_b1 : S := sSeq (sIf (bVal (cOp eqM (cVar 1) (cVar 0))) (sRet (cTup (aCons (cK (.int 1)) (aCons (cK (.int 0)) aNil)))) sNext) m_line_b2
noncomputable def M_line : List Clo → Clo := runDef [false, false] 0 (fun _ => m_line_b1)
noncomputable def m_product_for2_it : MI := wArg rangeM1 (aCons (cVar 8) aNil)
noncomputable def m_product_for2_body : S := sAsg (cCall 3 M_times (aCons (cVar 3) (aCons (cVar 6) (aCons (cCall 2 M_line (aCons (cVar 3) (aCons (cVar 7) aNil))) aNil)))) (tN 6)
noncomputable def m_product_for1_it : MI := wArg zipKM (aCons (cVar 5) (aCons (cVar 1) aNil))
noncomputable def m_product_for1_body : S := sFor m_product_for2_it (tN 4) m_product_for2_body
noncomputable def m_product_b6 : S := sRet (cVar 6)
noncomputable def m_product_b5 : S := sSeq (sFor m_product_for1_it (tT 2 (tsCons (tN 7) (tsCons (tN 8) tsNil))) m_product_for1_body) m_product_b6
noncomputable def m_product_b4 : S := sSeq (sAsg (cTup (aCons (cK (.int 1)) aNil)) (tN 6)) m_product_b5
noncomputable def m_product_b3 : S := sSeq (sAsg (cVar 0) (tT 3 (tsCons (tN 3) (tsCons (tN 4) (tsCons (tN 5) tsNil))))) m_product_b4
noncomputable def m_product_b2 : S := sSeq (sIf (bVal (cOp gtM (cVar 2) (cK (.int 98)))) (sRaise "TooMany" (aCons (cVar 2) aNil)) sNext) m_product_b3
noncomputable def m_product_b1 : S := sSeq (sAsg (cBi sumXM (aCons (cCall 2 M_made_lengths (aCons (cVar 0) (aCons (cVar 1) aNil))) aNil)) (tN 2)) m_product_b2
noncomputable def M_product : List Clo → Clo := runDef [false, false] 7 (fun _ => m_product_b1)
noncomputable def m_quotient_lc1_it : MI := wArg enumM (aCons (cVar 2) aNil)
noncomputable def m_quotient_lc1_elt : C := cVar 9
noncomputable def m_quotient_lc1_if : B := bTru (cVar 10)
noncomputable def m_quotient_lc2_it : MI := wArg zipKM (aCons (cRev (cVar 6)) (aCons (cVar 5) aNil))
noncomputable def m_quotient_lc2_elt : C := cOp mulM (cVar 11) (cVar 10)
noncomputable def m_quotient_for1_it : MI := wSeq (cSl (cVar 1) (poSome (cVar 3)) (poSome (cOp addM (cOp subM (cOp addM (cVar 3) (cBi lenM (aCons (cVar 1) aNil))) (cBi lenM (aCons (cVar 2) aNil))) (cK (.int 1)))))
noncomputable def m_quotient_for1_body : S := sSeq (sAsg (cBi sumM (aCons (cLc m_quotient_lc2_it [11, 10] (tT 2 (tsCons (tN 11) (tsCons (tN 10) tsNil))) bYes m_quotient_lc2_elt) aNil)) (tN 8)) (sExpr (cMethL appendM (cVar 6) (aCons (cOp modM (cOp mulM (cOp subM (cVar 7) (cVar 8)) (cVar 4)) (cVar 0)) aNil)))
noncomputable def m_quotient_b8 : S := sRet (cIf (bVal (cOp eqM (cCall 3 M_times (aCons (cVar 0) (aCons (cVar 6) (aCons (cVar 2) aNil)))) (cVar 1))) (cBi tupleM (aCons (cVar 6) aNil)) (cK .non))
noncomputable def m_quotient_b7 : S := sSeq (sFor m_quotient_for1_it (tN 7) m_quotient_for1_body) m_quotient_b8
noncomputable def m_quotient_b6 : S := sSeq (sAsg (cLst aNil) (tN 6)) m_quotient_b7
noncomputable def m_quotient_b5 : S := sSeq (sAsg (cSl (cVar 2) (poSome (cOp addM (cVar 3) (cK (.int 1)))) poNone) (tN 5)) m_quotient_b6
noncomputable def m_quotient_b4 : S := sSeq (sAsg (cCall 2 M_inverse (aCons (cOp ixM (cVar 2) (cVar 3)) (aCons (cVar 0) aNil))) (tN 4)) m_quotient_b5
noncomputable def m_quotient_b3 : S := sSeq (sAsg (cOp ixM (cLc m_quotient_lc1_it [9, 10] (tT 2 (tsCons (tN 9) (tsCons (tN 10) tsNil))) m_quotient_lc1_if m_quotient_lc1_elt) (cK (.int 0))) (tN 3)) m_quotient_b4
noncomputable def m_quotient_b2 : S := sSeq (sIf (bVal (cOp gtM (cBi lenM (aCons (cVar 2) aNil)) (cBi lenM (aCons (cVar 1) aNil)))) (sRet (cK .non)) sNext) m_quotient_b3
noncomputable def m_quotient_b1 : S := sSeq (sIf (bNot (bTru (cBi anyXM (aCons (cVar 2) aNil)))) (sRaise "BadForm" (aCons (cK (.int 1)) aNil)) sNext) m_quotient_b2
noncomputable def M_quotient : List Clo → Clo := runDef [false, false, false] 9 (fun _ => m_quotient_b1)
noncomputable def m_cell_fits_b1 : S := sRet (cAnd (cCall 1 M_is_pair (aCons (cVar 1) aNil)) (cAnd (cCall 1 M_is_batch_number (aCons (cOp ixM (cVar 1) (cK (.int 0))) aNil)) (cCall 3 M_number_between (aCons (cOp ixM (cVar 1) (cK (.int 1))) (aCons (cK (.int 0)) (aCons (cOp subM (cVar 0) (cK (.int 1))) aNil))))))
noncomputable def M_cell_fits : List Clo → Clo := runDef [false, false] 0 (fun _ => m_cell_fits_b1)
noncomputable def m_cells_fit_lam1 : C := cCall 2 M_cell_fits (aCons (cVar 1) (aCons (cVar 0) aNil))
noncomputable def m_cells_fit_b1 : S := sRet (cCallF M_tuple_fits (afCons (cVar 1) (afCons (cK (.int 0)) (afCons (cK (.int 1024)) (afLam 1 0 [0] m_cells_fit_lam1)))))
noncomputable def M_cells_fit : List Clo → Clo := runDef [false, false] 0 (fun _ => m_cells_fit_b1)
noncomputable def m_reading_fault_lam1 : C := cCall 2 M_cells_fit (aCons (cOp ixM (cVar 1) (cK (.int 0))) (aCons (cVar 0) aNil))
noncomputable def m_reading_fault_b2 : S := sRet (cCallF M_tuple_fault (afCons (cVar 1) (afCons (cVar 2) (afCons (cVar 2) (afLam 1 0 [0] m_reading_fault_lam1)))))
noncomputable def m_reading_fault_b1 : S := sSeq (sAsg (cCall 1 M_shelves (aCons (cVar 0) aNil)) (tN 2)) m_reading_fault_b2
noncomputable def M_reading_fault : List Clo → Clo := runDef [false, false] 1 (fun _ => m_reading_fault_b1)
noncomputable def m_made_reading_b3 : S := sRet (cVar 1)
noncomputable def m_made_reading_b2 : S := sSeq (sIf (bVal (cOp isNotM (cVar 2) (cK .non))) (sRaise "BadReading" (aCons (cVar 2) aNil)) sNext) m_made_reading_b3
noncomputable def m_made_reading_b1 : S := sSeq (sAsg (cCall 2 M_reading_fault (aCons (cVar 0) (aCons (cVar 1) aNil))) (tN 2)) m_made_reading_b2
noncomputable def M_made_reading : List Clo → Clo := runDef [false, false] 1 (fun _ => m_made_reading_b1)
noncomputable def m_tape_stop_fits_b1 : S := sRet (cAnd (cCall 1 M_is_pair (aCons (cVar 1) aNil)) (cAnd (cCall 3 M_number_between (aCons (cOp ixM (cVar 1) (cK (.int 0))) (aCons (cK (.int 0)) (aCons (cK (.int 1024)) aNil)))) (cCall 2 M_cells_fit (aCons (cVar 0) (aCons (cOp ixM (cVar 1) (cK (.int 1))) aNil)))))
noncomputable def M_tape_stop_fits : List Clo → Clo := runDef [false, false] 0 (fun _ => m_tape_stop_fits_b1)
noncomputable def m_stop_fault_lam1 : C := cCall 2 M_tape_stop_fits (aCons (cOp ixM (cVar 1) (cK (.int 0))) (aCons (cVar 0) aNil))
noncomputable def m_stop_fault_b2 : S := sRet (cCallF M_tuple_fault (afCons (cVar 1) (afCons (cVar 2) (afCons (cVar 2) (afLam 1 0 [0] m_stop_fault_lam1)))))
noncomputable def m_stop_fault_b1 : S := sSeq (sAsg (cCall 1 M_shelves (aCons (cVar 0) aNil)) (tN 2)) m_stop_fault_b2
noncomputable def M_stop_fault : List Clo → Clo := runDef [false, false] 1 (fun _ => m_stop_fault_b1)
noncomputable def m_made_stop_b3 : S := sRet (cVar 1)
noncomputable def m_made_stop_b2 : S := sSeq (sIf (bVal (cOp isNotM (cVar 2) (cK .non))) (sRaise "BadStop" (aCons (cVar 2) aNil)) sNext) m_made_stop_b3
noncomputable def m_made_stop_b1 : S := sSeq (sAsg (cCall 2 M_stop_fault (aCons (cVar 0) (aCons (cVar 1) aNil))) (tN 2)) m_made_stop_b2
noncomputable def M_made_stop : List Clo → Clo := runDef [false, false] 1 (fun _ => m_made_stop_b1)
noncomputable def m_stopped_tape_b2 : S := sRet (cOp addM (cSl (cVar 0) poNone (poSome (cVar 3))) (cVar 2))
noncomputable def m_stopped_tape_b1 : S := sSeq (sAsg (cOp subM (cOp subM (cBi lenM (aCons (cVar 0) aNil)) (cVar 1)) (cBi lenM (aCons (cVar 2) aNil))) (tN 3)) m_stopped_tape_b2
noncomputable def M_stopped_tape : List Clo → Clo := runDef [false, false, false] 1 (fun _ => m_stopped_tape_b1)
noncomputable def m_short_shelf_for1_it : MI := wArg enumM (aCons (cVar 1) aNil)
noncomputable def m_short_shelf_for1_body : S := sIf (bVal (cOp gtM (cOp addM (cVar 3) (cBi lenM (aCons (cVar 4) aNil))) (cBi lenM (aCons (cOp ixM (cVar 0) (cVar 2)) aNil)))) (sRet (cVar 2)) sNext
noncomputable def m_short_shelf_b2 : S := sRet (cK .non)
noncomputable def m_short_shelf_b1 : S := sSeq (sFor m_short_shelf_for1_it (tT 2 (tsCons (tN 2) (tsCons (tT 2 (tsCons (tN 3) (tsCons (tN 4) tsNil))) tsNil))) m_short_shelf_for1_body) m_short_shelf_b2
noncomputable def M_short_shelf : List Clo → Clo := runDef [false, false] 3 (fun _ => m_short_shelf_b1)
noncomputable def m_stopped_lc1_it : MI := wArg zipKM (aCons (cVar 1) (aCons (cVar 2) aNil))
noncomputable def m_stopped_lc1_elt : C := cCall 3 M_stopped_tape (aCons (cVar 4) (aCons (cVar 5) (aCons (cVar 6) aNil)))
noncomputable def m_stopped_b5 : S := sRet (cBi tupleM (aCons (cLc m_stopped_lc1_it [4, 5, 6] (tT 2 (tsCons (tN 4) (tsCons (tT 2 (tsCons (tN 5) (tsCons (tN 6) tsNil))) tsNil))) bYes m_stopped_lc1_elt) aNil))
noncomputable def m_stopped_b4 : S := sSeq (sIf (bVal (cOp isNotM (cVar 3) (cK .non))) (sRaise "Short" (aCons (cVar 3) aNil)) sNext) m_stopped_b5
noncomputable def m_stopped_b3 : S := sSeq (sAsg (cCall 2 M_short_shelf (aCons (cVar 1) (aCons (cVar 2) aNil))) (tN 3)) m_stopped_b4
noncomputable def m_stopped_b2 : S := sSeq (sExpr (cCall 2 M_made_stop (aCons (cVar 0) (aCons (cVar 2) aNil)))) m_stopped_b3
noncomputable def m_stopped_b1 : S := sSeq (sExpr (cCall 2 M_made_reading (aCons (cVar 0) (aCons (cVar 1) aNil)))) m_stopped_b2
noncomputable def M_stopped : List Clo → Clo := runDef [false, false, false] 4 (fun _ => m_stopped_b1)
noncomputable def m_allows_lam1 : C := cCall 2 M_tape_stop_fits (aCons (cK (.int 65521)) (aCons (cVar 0) aNil))
noncomputable def m_allows_lc1_it : MI := wArg zipKM (aCons (cVar 0) (aCons (cVar 1) aNil))
noncomputable def m_allows_lc1_elt : C := cAnd (cCall 2 M_at_most (aCons (cVar 4) (aCons (cVar 2) aNil))) (cCall 2 M_at_most (aCons (cBi lenM (aCons (cVar 5) aNil)) (aCons (cVar 3) aNil)))
noncomputable def m_allows_b3 : S := sRet (cBi allM (aCons (cLc m_allows_lc1_it [2, 3, 4, 5] (tT 2 (tsCons (tT 2 (tsCons (tN 2) (tsCons (tN 3) tsNil))) (tsCons (tT 2 (tsCons (tN 4) (tsCons (tN 5) tsNil))) tsNil))) bYes m_allows_lc1_elt) aNil))
noncomputable def m_allows_b2 : S := sSeq (sIf (bNot (bTru (cCallF M_tuple_fits (afCons (cVar 1) (afCons (cBi lenM (aCons (cVar 0) aNil)) (afCons (cBi lenM (aCons (cVar 0) aNil)) (afLam 1 0 [] m_allows_lam1))))))) (sRet (cK (.bl false))) sNext) m_allows_b3
noncomputable def m_allows_b1 : S := sSeq (sIf (bNot (bTru (cCallF M_tuple_fits (afCons (cVar 0) (afCons (cK (.int 1)) (afCons (cK (.int 8)) (afDef M_is_fate))))))) (sRet (cK (.bl false))) sNext) m_allows_b2
noncomputable def M_allows : List Clo → Clo := runDef [false, false] 4 (fun _ => m_allows_b1)
noncomputable def m_equation_b4 : S := sRet (cCall 4 M_value_weights (aCons (cVar 3) (aCons (cVar 4) (aCons (cVar 6) (aCons (cVar 2) aNil)))))
noncomputable def m_equation_b3 : S := sSeq (sIf (bNot (bTru (cCall 3 M_number_between (aCons (cVar 2) (aCons (cK (.int 0)) (aCons (cOp subM (cK (.int 1024)) (cK (.int 1))) aNil)))))) (sRaise "BadPlace" (aCons (cVar 2) aNil)) sNext) m_equation_b4
noncomputable def m_equation_b2 : S := sSeq (sAsg (cCall 2 M_point_of (aCons (cVar 0) (aCons (cVar 1) aNil))) (tN 6)) m_equation_b3
noncomputable def m_equation_b1 : S := sSeq (sAsg (cCall 1 M_made_ground (aCons (cVar 0) aNil)) (tT 3 (tsCons (tN 3) (tsCons (tN 4) (tsCons (tN 5) tsNil))))) m_equation_b2
noncomputable def M_equation : List Clo → Clo := runDef [false, false, false] 4 (fun _ => m_equation_b1)
noncomputable def m_is_ground_b1 : S := sRet (cOp isM (cCall 1 M_ground_fault (aCons (cVar 0) aNil)) (cK .non))
noncomputable def M_is_ground : List Clo → Clo := runDef [false] 0 (fun _ => m_is_ground_b1)
noncomputable def m_is_book_lam1 : C := cCall 2 M_row_fits (aCons (cVar 1) (aCons (cVar 0) aNil))
noncomputable def m_is_book_b1 : S := sRet (cAnd (cCall 1 M_is_many (aCons (cVar 0) aNil)) (cCallF M_tuple_fits (afCons (cVar 1) (afCons (cK (.int 1)) (afCons (cK (.int 24)) (afLam 1 0 [0] m_is_book_lam1))))))
noncomputable def M_is_book : List Clo → Clo := runDef [false, false] 0 (fun _ => m_is_book_b1)
noncomputable def m_broken_rule_b4 : S := sRet (cK .non)
noncomputable def m_broken_rule_b3 : S := sSeq (sIf (bVal (cOp ltM (cVar 2) (cK (.int 3)))) (sRet (cK (.int 2))) sNext) m_broken_rule_b4
noncomputable def m_broken_rule_b2 : S := sSeq (sIf (bVal (cOp ltM (cVar 1) (cK (.int 41)))) (sRet (cK (.int 1))) sNext) m_broken_rule_b3
noncomputable def m_broken_rule_b1 : S := sSeq (sAsg (cVar 0) (tT 3 (tsCons (tN 1) (tsCons (tN 2) (tsCons (tN 3) tsNil))))) m_broken_rule_b2
noncomputable def M_broken_rule : List Clo → Clo := runDef [false] 3 (fun _ => m_broken_rule_b1)
noncomputable def m_made_charter_b7 : S := sRet (cVar 0)
noncomputable def m_made_charter_b6 : S := sSeq (sIf (bNot (bTru (cCall 3 M_bearable (aCons (cVar 1) (aCons (cVar 2) (aCons (cK (.bl false)) aNil)))))) (sRaise "Hopeless" (aCons (cK (.int 0)) aNil)) sNext) m_made_charter_b7
noncomputable def m_made_charter_b5 : S := sSeq (sIf (bVal (cOp isNotM (cVar 3) (cK .non))) (sRaise "BadCharter" (aCons (cVar 3) aNil)) sNext) m_made_charter_b6
noncomputable def m_made_charter_b4 : S := sSeq (sAsg (cCall 1 M_broken_rule (aCons (cVar 1) aNil)) (tN 3)) m_made_charter_b5
noncomputable def m_made_charter_b3 : S := sSeq (sExpr (cCall 2 M_made_book (aCons (cCall 1 M_shelves (aCons (cCall 1 M_made_ground (aCons (cVar 1) aNil)) aNil)) (aCons (cVar 2) aNil)))) m_made_charter_b4
noncomputable def m_made_charter_b2 : S := sSeq (sAsg (cVar 0) (tT 2 (tsCons (tN 1) (tsCons (tN 2) tsNil)))) m_made_charter_b3
noncomputable def m_made_charter_b1 : S := sSeq (sIf (bNot (bTru (cCall 1 M_is_pair (aCons (cVar 0) aNil)))) (sRaise "BadCharter" (aCons (cK (.int 0)) aNil)) sNext) m_made_charter_b2
noncomputable def M_made_charter : List Clo → Clo := runDef [false] 3 (fun _ => m_made_charter_b1)
noncomputable def m_is_charter_b3 : S := sRet (cAnd (cCall 2 M_is_book (aCons (cCall 1 M_shelves (aCons (cVar 1) aNil)) (aCons (cVar 2) aNil))) (cAnd (cOp isM (cCall 1 M_broken_rule (aCons (cVar 1) aNil)) (cK .non)) (cCall 3 M_bearable (aCons (cVar 1) (aCons (cVar 2) (aCons (cK (.bl false)) aNil))))))
noncomputable def m_is_charter_b2 : S := sSeq (sAsg (cVar 0) (tT 2 (tsCons (tN 1) (tsCons (tN 2) tsNil)))) m_is_charter_b3
noncomputable def m_is_charter_b1 : S := sSeq (sIf (bOr (bNot (bTru (cCall 1 M_is_pair (aCons (cVar 0) aNil)))) (bNot (bTru (cCall 1 M_is_ground (aCons (cOp ixM (cVar 0) (cK (.int 0))) aNil))))) (sRet (cK (.bl false))) sNext) m_is_charter_b2
noncomputable def M_is_charter : List Clo → Clo := runDef [false] 2 (fun _ => m_is_charter_b1)
noncomputable def m_charters_fault_for1_it : MI := wArg enumM (aCons (cVar 0) aNil)
noncomputable def m_charters_fault_for1_body : S := sSeq (sIf (bOr (bNot (bTru (cCall 1 M_is_pair (aCons (cVar 3) aNil)))) (bOr (bNot (bTru (cCall 1 M_is_number (aCons (cOp ixM (cVar 3) (cK (.int 0))) aNil)))) (bOr (bVal (cOp leM (cOp ixM (cVar 3) (cK (.int 0))) (cVar 1))) (bNot (bTru (cCall 1 M_is_charter (aCons (cOp ixM (cVar 3) (cK (.int 1))) aNil))))))) (sRet (cVar 2)) sNext) (sAsg (cOp ixM (cVar 3) (cK (.int 0))) (tN 1))
noncomputable def m_charters_fault_b4 : S := sRet (cK .non)
noncomputable def m_charters_fault_b3 : S := sSeq (sFor m_charters_fault_for1_it (tT 2 (tsCons (tN 2) (tsCons (tN 3) tsNil))) m_charters_fault_for1_body) m_charters_fault_b4
noncomputable def m_charters_fault_b2 : S := sSeq (sAsg (cNeg (cK (.int 1))) (tN 1)) m_charters_fault_b3
noncomputable def m_charters_fault_b1 : S := sSeq (sIf (bNot (bTru (cIsi "tuple" (cVar 0)))) (sRet (cNeg (cK (.int 1)))) sNext) m_charters_fault_b2
noncomputable def M_charters_fault : List Clo → Clo := runDef [false] 3 (fun _ => m_charters_fault_b1)
noncomputable def m_made_charters_b3 : S := sRet (cVar 0)
noncomputable def m_made_charters_b2 : S := sSeq (sIf (bVal (cOp isNotM (cVar 1) (cK .non))) (sRaise "BadCharters" (aCons (cVar 1) aNil)) sNext) m_made_charters_b3
noncomputable def m_made_charters_b1 : S := sSeq (sAsg (cCall 1 M_charters_fault (aCons (cVar 0) aNil)) (tN 1)) m_made_charters_b2
noncomputable def M_made_charters : List Clo → Clo := runDef [false] 1 (fun _ => m_made_charters_b1)
noncomputable def m_first_row_for1_it : MI := wArg rangeM2 (aCons (cVar 1) (aCons (cBi lenM (aCons (cVar 0) aNil)) aNil))
noncomputable def m_first_row_for1_body : S := sIf (bTru (cOp ixM (cOp ixM (cVar 0) (cVar 3)) (cVar 2))) (sRet (cVar 3)) sNext
noncomputable def m_first_row_b2 : S := sRet (cK .non)
noncomputable def m_first_row_b1 : S := sSeq (sFor m_first_row_for1_it (tN 3) m_first_row_for1_body) m_first_row_b2
noncomputable def M_first_row : List Clo → Clo := runDef [false, false, false] 1 (fun _ => m_first_row_b1)
noncomputable def m_with_first_one_lc1_it : MI := wSeq (cVar 0)
noncomputable def m_with_first_one_lc1_elt : C := cOp modM (cOp mulM (cVar 4) (cVar 3)) (cVar 2)
noncomputable def m_with_first_one_b2 : S := sRet (cBi tupleM (aCons (cLc m_with_first_one_lc1_it [4] (tN 4) bYes m_with_first_one_lc1_elt) aNil))
noncomputable def m_with_first_one_b1 : S := sSeq (sAsg (cCall 2 M_inverse (aCons (cOp ixM (cVar 0) (cVar 1)) (aCons (cVar 2) aNil))) (tN 3)) m_with_first_one_b2
noncomputable def M_with_first_one : List Clo → Clo := runDef [false, false, false] 2 (fun _ => m_with_first_one_b1)
noncomputable def m_cleared_lc1_it : MI := wArg zipKM (aCons (cVar 0) (aCons (cVar 1) aNil))
noncomputable def m_cleared_lc1_elt : C := cOp modM (cOp subM (cVar 5) (cOp mulM (cVar 4) (cVar 6))) (cVar 3)
noncomputable def m_cleared_b3 : S := sRet (cBi tupleM (aCons (cLc m_cleared_lc1_it [5, 6] (tT 2 (tsCons (tN 5) (tsCons (tN 6) tsNil))) bYes m_cleared_lc1_elt) aNil))
noncomputable def m_cleared_b2 : S := sSeq (sIf (bVal (cOp eqM (cVar 4) (cK (.int 0)))) (sRet (cVar 0)) sNext) m_cleared_b3
noncomputable def m_cleared_b1 : S := sSeq (sAsg (cOp ixM (cVar 0) (cVar 2)) (tN 4)) m_cleared_b2
noncomputable def M_cleared : List Clo → Clo := runDef [false, false, false, false] 3 (fun _ => m_cleared_b1)
noncomputable def m_reduced_lc1_it : MI := wSeq (cVar 8)
noncomputable def m_reduced_lc1_elt : C := cCall 4 M_cleared (aCons (cVar 9) (aCons (cVar 7) (aCons (cVar 5) (aCons (cVar 2) aNil))))
noncomputable def m_reduced_for1_it : MI := wArg rangeM1 (aCons (cVar 1) aNil)
noncomputable def m_reduced_for1_body : S := sSeq (sAsg (cCall 3 M_first_row (aCons (cVar 3) (aCons (cVar 4) (aCons (cVar 5) aNil)))) (tN 6)) (sSeq (sIf (bVal (cOp isM (cVar 6) (cK .non))) sCt sNext) (sSeq (sAsg (cCall 3 M_with_first_one (aCons (cOp ixM (cVar 3) (cVar 6)) (aCons (cVar 5) (aCons (cVar 2) aNil)))) (tN 7)) (sSeq (sAsg (cOp addM (cSl (cVar 3) poNone (poSome (cVar 6))) (cSl (cVar 3) (poSome (cOp addM (cVar 6) (cK (.int 1)))) poNone)) (tN 8)) (sSeq (sAsg (cLc m_reduced_lc1_it [9] (tN 9) bYes m_reduced_lc1_elt) (tN 3)) (sSeq (sExpr (cMethL insertM (cVar 3) (aCons (cVar 4) (aCons (cVar 7) aNil)))) (sAug 4 iaddM (cK (.int 1))))))))
noncomputable def m_reduced_b4 : S := sRet (cBi tupleM (aCons (cSl (cVar 3) poNone (poSome (cVar 4))) aNil))
noncomputable def m_reduced_b3 : S := sSeq (sFor m_reduced_for1_it (tN 5) m_reduced_for1_body) m_reduced_b4
noncomputable def m_reduced_b2 : S := sSeq (sAsg (cK (.int 0)) (tN 4)) m_reduced_b3
noncomputable def m_reduced_b1 : S := sSeq (sAsg (cBi listM (aCons (cVar 0) aNil)) (tN 3)) m_reduced_b2
noncomputable def M_reduced : List Clo → Clo := runDef [false, false, false] 7 (fun _ => m_reduced_b1)
noncomputable def m_first_columns_lc1_it : MI := wArg enumM (aCons (cVar 1) aNil)
noncomputable def m_first_columns_lc1_elt : C := cVar 2
noncomputable def m_first_columns_lc1_if : B := bTru (cVar 3)
noncomputable def m_first_columns_lc2_it : MI := wSeq (cVar 0)
noncomputable def m_first_columns_lc2_elt : C := cOp ixM (cLc m_first_columns_lc1_it [2, 3] (tT 2 (tsCons (tN 2) (tsCons (tN 3) tsNil))) m_first_columns_lc1_if m_first_columns_lc1_elt) (cK (.int 0))
noncomputable def m_first_columns_b1 : S := sRet (cLc m_first_columns_lc2_it [1] (tN 1) bYes m_first_columns_lc2_elt)
noncomputable def M_first_columns : List Clo → Clo := runDef [false] 3 (fun _ => m_first_columns_b1)
noncomputable def m_kernel_of_for2_it : MI := wArg zipKM (aCons (cVar 3) (aCons (cVar 4) aNil))
noncomputable def m_kernel_of_for2_body : S := sAsg (cOp modM (cNeg (cOp ixM (cVar 8) (cVar 6))) (cVar 2)) (tS (cVar 7) (cVar 9))
noncomputable def m_kernel_of_for1_it : MI := wArg rangeM1 (aCons (cVar 1) aNil)
noncomputable def m_kernel_of_for1_body : S := sSeq (sIf (bVal (cOp inM (cVar 6) (cVar 4))) sCt sNext) (sSeq (sAsg (cOp mulM (cLst (aCons (cK (.int 0)) aNil)) (cVar 1)) (tN 7)) (sSeq (sAsg (cK (.int 1)) (tS (cVar 7) (cVar 6))) (sSeq (sFor m_kernel_of_for2_it (tT 2 (tsCons (tN 8) (tsCons (tN 9) tsNil))) m_kernel_of_for2_body) (sExpr (cMethL appendM (cVar 5) (aCons (cBi tupleM (aCons (cVar 7) aNil)) aNil))))))
noncomputable def m_kernel_of_b5 : S := sRet (cBi tupleM (aCons (cVar 5) aNil))
noncomputable def m_kernel_of_b4 : S := sSeq (sFor m_kernel_of_for1_it (tN 6) m_kernel_of_for1_body) m_kernel_of_b5
noncomputable def m_kernel_of_b3 : S := sSeq (sAsg (cLst aNil) (tN 5)) m_kernel_of_b4
noncomputable def m_kernel_of_b2 : S := sSeq (sAsg (cCall 1 M_first_columns (aCons (cVar 3) aNil)) (tN 4)) m_kernel_of_b3
noncomputable def m_kernel_of_b1 : S := sSeq (sAsg (cCall 3 M_reduced (aCons (cVar 0) (aCons (cVar 1) (aCons (cVar 2) aNil)))) (tN 3)) m_kernel_of_b2
noncomputable def M_kernel_of : List Clo → Clo := runDef [false, false, false] 7 (fun _ => m_kernel_of_b1)
noncomputable def m_has_room_lc1_it : MI := wSeq (cVar 1)
noncomputable def m_has_room_lc1_elt : C := cBi lenM (aCons (cVar 3) aNil)
noncomputable def m_has_room_b1 : S := sRet (cOp leM (cOp addM (cOp mulM (cK (.int 2)) (cVar 2)) (cOp ixM (cVar 0) (cK (.int 1)))) (cBi sumM (aCons (cLc m_has_room_lc1_it [3] (tN 3) bYes m_has_room_lc1_elt) aNil)))
noncomputable def M_has_room : List Clo → Clo := runDef [false, false, false] 1 (fun _ => m_has_room_b1)
noncomputable def m_locator_line_lc1_it : MI := wArg zipKM (aCons (cVar 5) (aCons (cVar 7) aNil))
noncomputable def m_locator_line_lc1_elt : C := cOp modM (cOp addM (cVar 8) (cOp mulM (cVar 9) (cOp ixM (cVar 3) (cOp subM (cVar 4) (cVar 6))))) (cVar 0)
noncomputable def m_locator_line_for1_it : MI := wArg enumM (aCons (cSl (cVar 1) poNone (poSome (cOp addM (cVar 4) (cK (.int 1))))) aNil)
noncomputable def m_locator_line_for1_body : S := sAsg (cLc m_locator_line_lc1_it [8, 9] (tT 2 (tsCons (tN 8) (tsCons (tN 9) tsNil))) bYes m_locator_line_lc1_elt) (tN 5)
noncomputable def m_locator_line_lc2_it : MI := wSeq (cVar 2)
noncomputable def m_locator_line_lc2_elt : C := cOp modM (cNeg (cVar 10)) (cVar 0)
noncomputable def m_locator_line_b3 : S := sRet (cBi tupleM (aCons (cOp addM (cVar 5) (cLc m_locator_line_lc2_it [10] (tN 10) bYes m_locator_line_lc2_elt)) aNil))
noncomputable def m_locator_line_b2 : S := sSeq (sFor m_locator_line_for1_it (tT 2 (tsCons (tN 6) (tsCons (tN 7) tsNil))) m_locator_line_for1_body) m_locator_line_b3
noncomputable def m_locator_line_b1 : S := sSeq (sAsg (cOp mulM (cLst (aCons (cK (.int 0)) aNil)) (cBi lenM (aCons (cVar 1) aNil))) (tN 5)) m_locator_line_b2
noncomputable def M_locator_line : List Clo → Clo := runDef [false, false, false, false, false] 6 (fun _ => m_locator_line_b1)
noncomputable def m_locator_lines_for2_it : MI := wArg rangeM1 (aCons (cBi lenM (aCons (cVar 8) aNil)) aNil)
noncomputable def m_locator_lines_for2_body : S := sExpr (cMethL appendM (cVar 6) (aCons (cCall 5 M_locator_line (aCons (cVar 3) (aCons (cVar 9) (aCons (cCall 4 M_value_weights (aCons (cVar 3) (aCons (cOp addM (cVar 2) (cVar 4)) (aCons (cVar 7) (aCons (cVar 10) aNil))))) (aCons (cVar 8) (aCons (cVar 10) aNil)))))) aNil))
noncomputable def m_locator_lines_lc1_it : MI := wArg rangeM1 (aCons (cOp addM (cVar 2) (cK (.int 1))) aNil)
noncomputable def m_locator_lines_lc1_elt : C := cCall 4 M_value_weights (aCons (cVar 3) (aCons (cOp addM (cVar 2) (cK (.int 1))) (aCons (cVar 7) (aCons (cVar 11) aNil))))
noncomputable def m_locator_lines_for1_it : MI := wArg zipKM (aCons (cVar 5) (aCons (cVar 1) aNil))
noncomputable def m_locator_lines_for1_body : S := sSeq (sAsg (cLc m_locator_lines_lc1_it [11] (tN 11) bYes m_locator_lines_lc1_elt) (tN 9)) (sFor m_locator_lines_for2_it (tN 10) m_locator_lines_for2_body)
noncomputable def m_locator_lines_b4 : S := sRet (cBi tupleM (aCons (cVar 6) aNil))
noncomputable def m_locator_lines_b3 : S := sSeq (sFor m_locator_lines_for1_it (tT 2 (tsCons (tN 7) (tsCons (tN 8) tsNil))) m_locator_lines_for1_body) m_locator_lines_b4
noncomputable def m_locator_lines_b2 : S := sSeq (sAsg (cLst aNil) (tN 6)) m_locator_lines_b3
noncomputable def m_locator_lines_b1 : S := sSeq (sAsg (cVar 0) (tT 3 (tsCons (tN 3) (tsCons (tN 4) (tsCons (tN 5) tsNil))))) m_locator_lines_b2
noncomputable def M_locator_lines : List Clo → Clo := runDef [false, false, false] 9 (fun _ => m_locator_lines_b1)
noncomputable def m_found_locator_b3 : S := sRet (cTup (aCons (cSl (cOp ixM (cVar 3) (cK (.int 0))) poNone (poSome (cOp addM (cVar 2) (cK (.int 1))))) (aCons (cSl (cOp ixM (cVar 3) (cK (.int 0))) (poSome (cOp addM (cVar 2) (cK (.int 1)))) poNone) aNil)))
noncomputable def m_found_locator_b2 : S := sSeq (sIf (bNot (bTru (cVar 3))) (sRet (cK .non)) sNext) m_found_locator_b3
noncomputable def m_found_locator_b1 : S := sSeq (sAsg (cCall 3 M_kernel_of (aCons (cCall 3 M_locator_lines (aCons (cVar 0) (aCons (cVar 1) (aCons (cVar 2) aNil)))) (aCons (cOp addM (cOp addM (cOp mulM (cK (.int 2)) (cVar 2)) (cK (.int 1))) (cOp ixM (cVar 0) (cK (.int 1)))) (aCons (cOp ixM (cVar 0) (cK (.int 0))) aNil)))) (tN 3)) m_found_locator_b2
noncomputable def M_found_locator : List Clo → Clo := runDef [false, false, false] 1 (fun _ => m_found_locator_b1)
noncomputable def m_rows_fault_lam1 : C := cCall 4 M_numbers_fit (aCons (cVar 0) (aCons (cK (.int 0)) (aCons (cK (.int 64)) (aCons (cOp subM (cOp ixM (cVar 1) (cK (.int 0))) (cK (.int 1))) aNil))))
noncomputable def m_rows_fault_b2 : S := sRet (cCallF M_tuple_fault (afCons (cVar 1) (afCons (cVar 2) (afCons (cVar 2) (afLam 1 0 [0] m_rows_fault_lam1)))))
noncomputable def m_rows_fault_b1 : S := sSeq (sAsg (cCall 1 M_shelves (aCons (cVar 0) aNil)) (tN 2)) m_rows_fault_b2
noncomputable def M_rows_fault : List Clo → Clo := runDef [false, false] 1 (fun _ => m_rows_fault_b1)
noncomputable def m_made_rows_b3 : S := sRet (cVar 1)
noncomputable def m_made_rows_b2 : S := sSeq (sIf (bVal (cOp isNotM (cVar 2) (cK .non))) (sRaise "BadRows" (aCons (cVar 2) aNil)) sNext) m_made_rows_b3
noncomputable def m_made_rows_b1 : S := sSeq (sAsg (cCall 2 M_rows_fault (aCons (cVar 0) (aCons (cVar 1) aNil))) (tN 2)) m_made_rows_b2
noncomputable def M_made_rows : List Clo → Clo := runDef [false, false] 1 (fun _ => m_made_rows_b1)
noncomputable def m_is_torn_bound_b1 : S := sRet (cCall 3 M_number_between (aCons (cVar 0) (aCons (cK (.int 0)) (aCons (cK (.int 24)) aNil))))
noncomputable def M_is_torn_bound : List Clo → Clo := runDef [false] 0 (fun _ => m_is_torn_bound_b1)
noncomputable def m_made_torn_bound_b2 : S := sRet (cVar 0)
noncomputable def m_made_torn_bound_b1 : S := sSeq (sIf (bNot (bTru (cCall 1 M_is_torn_bound (aCons (cVar 0) aNil)))) (sRaise "BadNumber" (aCons (cVar 0) aNil)) sNext) m_made_torn_bound_b2
noncomputable def M_made_torn_bound : List Clo → Clo := runDef [false] 0 (fun _ => m_made_torn_bound_b1)
noncomputable def m_locator_b4 : S := sRet (cCall 3 M_found_locator (aCons (cVar 0) (aCons (cVar 1) (aCons (cVar 2) aNil))))
noncomputable def m_locator_b3 : S := sSeq (sIf (bNot (bTru (cCall 3 M_has_room (aCons (cVar 0) (aCons (cVar 1) (aCons (cVar 2) aNil)))))) (sRaise "NotSo" (aCons (cK (.int 0)) aNil)) sNext) m_locator_b4
noncomputable def m_locator_b2 : S := sSeq (sExpr (cCall 1 M_made_torn_bound (aCons (cVar 2) aNil))) m_locator_b3
noncomputable def m_locator_b1 : S := sSeq (sExpr (cCall 2 M_made_rows (aCons (cVar 0) (aCons (cVar 1) aNil)))) m_locator_b2
noncomputable def M_locator : List Clo → Clo := runDef [false, false, false] 0 (fun _ => m_locator_b1)
noncomputable def m_batch_of_b1 : S := sRet (cCall 3 M_quotient (aCons (cOp ixM (cCall 1 M_made_ground (aCons (cVar 0) aNil)) (cK (.int 0))) (aCons (cVar 2) (aCons (cVar 1) aNil))))
noncomputable def M_batch_of : List Clo → Clo := runDef [false, false, false] 0 (fun _ => m_batch_of_b1)
noncomputable def m_is_tuple_of_b1 : S := sRet (cAnd (cIsi "tuple" (cVar 1)) (cOp eqM (cBi lenM (aCons (cVar 1) aNil)) (cVar 0)))
noncomputable def M_is_tuple_of : List Clo → Clo := runDef [false, false] 0 (fun _ => m_is_tuple_of_b1)
noncomputable def m_locator_fits_b4 : S := sRet (cAnd (cCall 4 M_numbers_fit (aCons (cVar 6) (aCons (cOp addM (cVar 1) (cK (.int 1))) (aCons (cOp addM (cVar 1) (cK (.int 1))) (aCons (cOp subM (cVar 3) (cK (.int 1))) aNil))))) (cAnd (cBi anyXM (aCons (cVar 6) aNil)) (cCall 4 M_numbers_fit (aCons (cVar 7) (aCons (cOp addM (cVar 1) (cVar 4)) (aCons (cOp addM (cVar 1) (cVar 4)) (aCons (cOp subM (cVar 3) (cK (.int 1))) aNil)))))))
noncomputable def m_locator_fits_b3 : S := sSeq (sAsg (cVar 2) (tT 2 (tsCons (tN 6) (tsCons (tN 7) tsNil)))) m_locator_fits_b4
noncomputable def m_locator_fits_b2 : S := sSeq (sIf (bNot (bTru (cCall 2 M_is_tuple_of (aCons (cK (.int 2)) (aCons (cVar 2) aNil))))) (sRet (cK (.bl false))) sNext) m_locator_fits_b3
noncomputable def m_locator_fits_b1 : S := sSeq (sAsg (cVar 0) (tT 3 (tsCons (tN 3) (tsCons (tN 4) (tsCons (tN 5) tsNil))))) m_locator_fits_b2
noncomputable def M_locator_fits : List Clo → Clo := runDef [false, false, false] 5 (fun _ => m_locator_fits_b1)
noncomputable def m_locates_lc1_it : MI := wArg rangeM1 (aCons (cBi lenM (aCons (cVar 4) aNil)) aNil)
noncomputable def m_locates_lc1_elt : C := cCall 4 M_value (aCons (cVar 0) (aCons (cVar 1) (aCons (cVar 3) (aCons (cVar 8) aNil))))
noncomputable def m_locates_lc2_it : MI := wArg rangeM1 (aCons (cOp addM (cVar 6) (cK (.int 1))) aNil)
noncomputable def m_locates_lc2_elt : C := cOp mulM (cOp ixM (cVar 5) (cVar 8)) (cOp ixM (cVar 4) (cOp subM (cVar 6) (cVar 8)))
noncomputable def m_locates_for1_it : MI := wArg rangeM1 (aCons (cBi lenM (aCons (cVar 4) aNil)) aNil)
noncomputable def m_locates_for1_body : S := sSeq (sAsg (cBi sumM (aCons (cLc m_locates_lc2_it [8] (tN 8) bYes m_locates_lc2_elt) aNil)) (tN 7)) (sIf (bVal (cOp neM (cCall 4 M_value (aCons (cVar 0) (aCons (cVar 2) (aCons (cVar 3) (aCons (cVar 6) aNil))))) (cOp modM (cVar 7) (cVar 0)))) (sRet (cK (.bl false))) sNext)
noncomputable def m_locates_b3 : S := sRet (cK (.bl true))
noncomputable def m_locates_b2 : S := sSeq (sFor m_locates_for1_it (tN 6) m_locates_for1_body) m_locates_b3
noncomputable def m_locates_b1 : S := sSeq (sAsg (cLc m_locates_lc1_it [8] (tN 8) bYes m_locates_lc1_elt) (tN 5)) m_locates_b2
noncomputable def M_locates : List Clo → Clo := runDef [false, false, false, false, false] 4 (fun _ => m_locates_b1)
noncomputable def m_locator_right_lc1_it : MI := wArg zipKM (aCons (cVar 6) (aCons (cVar 1) aNil))
noncomputable def m_locator_right_lc1_elt : C := cCall 5 M_locates (aCons (cVar 4) (aCons (cOp ixM (cVar 3) (cK (.int 0))) (aCons (cOp ixM (cVar 3) (cK (.int 1))) (aCons (cVar 7) (aCons (cVar 8) aNil)))))
noncomputable def m_locator_right_b4 : S := sRet (cBi allM (aCons (cLc m_locator_right_lc1_it [7, 8] (tT 2 (tsCons (tN 7) (tsCons (tN 8) tsNil))) bYes m_locator_right_lc1_elt) aNil))
noncomputable def m_locator_right_b3 : S := sSeq (sAsg (cVar 0) (tT 3 (tsCons (tN 4) (tsCons (tN 5) (tsCons (tN 6) tsNil))))) m_locator_right_b4
noncomputable def m_locator_right_b2 : S := sSeq (sIf (bOr (bNot (bTru (cCall 3 M_has_room (aCons (cVar 0) (aCons (cVar 1) (aCons (cVar 2) aNil)))))) (bNot (bTru (cCall 3 M_locator_fits (aCons (cVar 0) (aCons (cVar 2) (aCons (cVar 3) aNil))))))) (sRet (cK (.bl false))) sNext) m_locator_right_b3
noncomputable def m_locator_right_b1 : S := sSeq (sIf (bOr (bNot (bTru (cCall 1 M_is_ground (aCons (cVar 0) aNil)))) (bOr (bVal (cOp isNotM (cCall 2 M_rows_fault (aCons (cVar 0) (aCons (cVar 1) aNil))) (cK .non))) (bNot (bTru (cCall 1 M_is_torn_bound (aCons (cVar 2) aNil)))))) (sRet (cK (.bl false))) sNext) m_locator_right_b2
noncomputable def M_locator_right : List Clo → Clo := runDef [false, false, false, false] 5 (fun _ => m_locator_right_b1)

noncomputable def m__law_pool_b3 : S := sRet (cLst (aCons (cIf (bVal (cOp geM (cVar 2) (cOp powM (cK (.int 10)) (cK (.int 18))))) (cVar 2) (cK (.int 0))) (aCons (cOp addM (cOp modM (cBi toIntM (aCons (cOp addM (cOp mulM (cVar 2) (cK (.int 48271))) (cK (.int 1009))) aNil)) (cK (.int 2147483629))) (cK (.int 3))) (aCons (cBi listM (aCons (cSl (cVar 0) (poSome (cK (.int 1))) poNone) aNil)) aNil))))
noncomputable def m__law_pool_b2 : S := sSeq (sAsg (cIf (bVal (cOp geM (cVar 1) (cK (.int 0)))) (cOp mulM (cK (.int 2)) (cVar 1)) (cOp subM (cNeg (cK (.int 1))) (cOp mulM (cK (.int 2)) (cVar 1)))) (tN 2)) m__law_pool_b3
noncomputable def m__law_pool_b1 : S := sSeq (sAsg (cIf (bVal (cOp gtM (cBi lenM (aCons (cVar 0) aNil)) (cK (.int 0)))) (cBi toIntM (aCons (cOp ixM (cVar 0) (cK (.int 0))) aNil)) (cK (.int 0))) (tN 1)) m__law_pool_b2
noncomputable def M__law_pool : List Clo → Clo := runDef [false] 2 (fun _ => m__law_pool_b1)
noncomputable def m__law_draw_b4 : S := sRet (cOp modM (cOp divM (cOp modM (cBi toIntM (aCons (cOp mulM (cOp ixM (cVar 0) (cK (.int 1))) (cOp ixM (cVar 0) (cK (.int 1)))) aNil)) (cK (.int 2147483629))) (cK (.int 32))) (cVar 1))
noncomputable def m__law_draw_b3 : S := sSeq (sAsg (cOp modM (cBi toIntM (aCons (cOp addM (cOp mulM (cOp ixM (cVar 0) (cK (.int 1))) (cK (.int 48271))) (cK (.int 11))) aNil)) (cK (.int 2147483647))) (tS (cVar 0) (cK (.int 1)))) m__law_draw_b4
noncomputable def m__law_draw_b2 : S := sSeq (sIf (bVal (cOp gtM (cOp ixM (cVar 0) (cK (.int 0))) (cK (.int 0)))) (sSeq (sAsg (cOp modM (cBi toIntM (aCons (cOp ixM (cVar 0) (cK (.int 0))) aNil)) (cVar 1)) (tN 4)) (sSeq (sAsg (cOp divM (cOp ixM (cVar 0) (cK (.int 0))) (cVar 1)) (tS (cVar 0) (cK (.int 0)))) (sRet (cVar 4)))) sNext) m__law_draw_b3
noncomputable def m__law_draw_b1 : S := sSeq (sIf (bAnd (bVal (cOp eqM (cOp ixM (cVar 0) (cK (.int 0))) (cK (.int 0)))) (bVal (cOp neM (cOp ixM (cVar 0) (cK (.int 2))) (cLst aNil)))) (sSeq (sAsg (cBi toIntM (aCons (cMethL popAtM (cOp ixM (cVar 0) (cK (.int 2))) (aCons (cK (.int 0)) aNil)) aNil)) (tN 2)) (sSeq (sAsg (cIf (bVal (cOp geM (cVar 2) (cK (.int 0)))) (cOp mulM (cK (.int 2)) (cVar 2)) (cOp subM (cNeg (cK (.int 1))) (cOp mulM (cK (.int 2)) (cVar 2)))) (tN 3)) (sSeq (sAsg (cIf (bVal (cOp geM (cVar 3) (cOp powM (cK (.int 10)) (cK (.int 18))))) (cVar 3) (cK (.int 0))) (tS (cVar 0) (cK (.int 0)))) (sAsg (cOp addM (cOp modM (cBi toIntM (aCons (cOp addM (cOp ixM (cVar 0) (cK (.int 1))) (cOp mulM (cVar 3) (cK (.int 69621)))) aNil)) (cK (.int 2147483629))) (cK (.int 3))) (tS (cVar 0) (cK (.int 1))))))) sNext) m__law_draw_b2
noncomputable def M__law_draw : List Clo → Clo := runDef [false, false] 3 (fun _ => m__law_draw_b1)
noncomputable def m__law_pick_b1 : S := sRet (cOp ixM (cVar 1) (cCall 2 M__law_draw (aCons (cVar 0) (aCons (cBi lenM (aCons (cVar 1) aNil)) aNil))))
noncomputable def M__law_pick : List Clo → Clo := runDef [false, false] 0 (fun _ => m__law_pick_b1)
noncomputable def m__law_turned_for1_it : MI := wArg rangeM1 (aCons (cVar 1) aNil)
noncomputable def m__law_turned_for1_body : S := sExpr (cMethL appendM (cVar 3) (aCons (cMethL popAtM (cVar 2) (aCons (cCall 2 M__law_draw (aCons (cVar 0) (aCons (cBi lenM (aCons (cVar 2) aNil)) aNil))) aNil)) aNil))
noncomputable def m__law_turned_b3 : S := sRet (cVar 3)
noncomputable def m__law_turned_b2 : S := sSeq (sFor m__law_turned_for1_it (tN 4) m__law_turned_for1_body) m__law_turned_b3
noncomputable def m__law_turned_b1 : S := sSeq (sPar 2 3 (aCons (cBi listRgM (aCons (cVar 1) aNil)) (aCons (cLst aNil) aNil))) m__law_turned_b2
noncomputable def M__law_turned : List Clo → Clo := runDef [false, false] 3 (fun _ => m__law_turned_b1)
noncomputable def m__law_ground_lc1_it : MI := wArg rangeM1 (aCons (cVar 4) aNil)
noncomputable def m__law_ground_lc1_elt : C := cOp modM (cBi toIntM (aCons (cOp addM (cVar 6) (cOp mulM (cVar 8) (cVar 7))) aNil)) (cOp addM (cVar 3) (cK (.int 1)))
noncomputable def m__law_ground_b4 : S := sRet (cTup (aCons (cVar 3) (aCons (cOp addM (cK (.int 1)) (cCall 2 M__law_draw (aCons (cVar 0) (aCons (cVar 1) aNil)))) (aCons (cBi tupleM (aCons (cVar 5) aNil)) aNil))))
noncomputable def m__law_ground_b3 : S := sSeq (sIf (bVal (cOp ltM (cVar 3) (cK (.int 16)))) (sAsg (cSl (cCall 2 M__law_turned (aCons (cVar 0) (aCons (cOp addM (cVar 3) (cK (.int 1))) aNil))) poNone (poSome (cVar 4))) (tN 5)) (sSeq (sAsg (cTup (aCons (cCall 2 M__law_draw (aCons (cVar 0) (aCons (cOp addM (cVar 3) (cK (.int 1))) aNil))) (aCons (cOp addM (cK (.int 1)) (cCall 2 M__law_draw (aCons (cVar 0) (aCons (cOp divM (cOp addM (cVar 3) (cK (.int 1))) (cK (.int 8))) aNil)))) aNil))) (tT 2 (tsCons (tN 6) (tsCons (tN 7) tsNil)))) (sSeq (sAsg (cLc m__law_ground_lc1_it [8] (tN 8) bYes m__law_ground_lc1_elt) (tN 5)) (sIf (bAnd (bVal (cOp notInM (cVar 3) (cVar 5))) (bVal (cOp eqM (cCall 2 M__law_draw (aCons (cVar 0) (aCons (cK (.int 2)) aNil))) (cK (.int 0))))) (sAsg (cVar 3) (tS (cVar 5) (cCall 2 M__law_draw (aCons (cVar 0) (aCons (cVar 4) aNil))))) sNext)))) m__law_ground_b4
noncomputable def m__law_ground_b2 : S := sSeq (sAsg (cOp addM (cK (.int 1)) (cCall 2 M__law_draw (aCons (cVar 0) (aCons (cBi min2M (aCons (cVar 2) (aCons (cOp addM (cVar 3) (cK (.int 1))) aNil))) aNil)))) (tN 4)) m__law_ground_b3
noncomputable def m__law_ground_b1 : S := sSeq (sAsg (cCall 2 M__law_pick (aCons (cVar 0) (aCons (cLst (aCons (cK (.int 2)) (aCons (cK (.int 3)) (aCons (cK (.int 5)) (aCons (cK (.int 7)) (aCons (cK (.int 2)) (aCons (cK (.int 3)) (aCons (cK (.int 5)) (aCons (cK (.int 7)) (aCons (cK (.int 11)) (aCons (cK (.int 13)) (aCons (cK (.int 32749)) (aCons (cK (.int 65521)) aNil))))))))))))) aNil))) (tN 3)) m__law_ground_b2
noncomputable def M__law_ground : List Clo → Clo := runDef [false, false, false] 6 (fun _ => m__law_ground_b1)
noncomputable def m__law_batch_lc1_it : MI := wArg rangeM1 (aCons (cVar 3) aNil)
noncomputable def m__law_batch_lc1_elt : C := cCall 2 M__law_draw (aCons (cVar 0) (aCons (cVar 2) aNil))
noncomputable def m__law_batch_lc2_it : MI := wArg rangeM1 (aCons (cVar 3) aNil)
noncomputable def m__law_batch_lc2_elt : C := cIf (bVal (cOp eqM (cVar 6) (cVar 5))) (cOp subM (cVar 2) (cK (.int 1))) (cK (.int 0))
noncomputable def m__law_batch_b4 : S := sRet (cBi tupleM (aCons (cLc m__law_batch_lc2_it [6] (tN 6) bYes m__law_batch_lc2_elt) aNil))
noncomputable def m__law_batch_b3 : S := sSeq (sAsg (cCall 2 M__law_draw (aCons (cVar 0) (aCons (cVar 3) aNil))) (tN 5)) m__law_batch_b4
noncomputable def m__law_batch_b2 : S := sSeq (sIf (bVal (cOp gtM (cCall 2 M__law_draw (aCons (cVar 0) (aCons (cK (.int 4)) aNil))) (cK (.int 0)))) (sRet (cBi tupleM (aCons (cLc m__law_batch_lc1_it [5] (tN 5) bYes m__law_batch_lc1_elt) aNil))) sNext) m__law_batch_b3
noncomputable def m__law_batch_b1 : S := sSeq (sAsg (cVar 1) (tT 3 (tsCons (tN 2) (tsCons (tN 3) (tsCons (tN 4) tsNil))))) m__law_batch_b2
noncomputable def M__law_batch : List Clo → Clo := runDef [false, false] 5 (fun _ => m__law_batch_b1)
noncomputable def m__law_lengths_lc1_it : MI := wSeq (cOp ixM (cVar 1) (cK (.int 2)))
noncomputable def m__law_lengths_lc1_elt : C := cCall 2 M__law_draw (aCons (cVar 0) (aCons (cOp addM (cVar 2) (cK (.int 1))) aNil))
noncomputable def m__law_lengths_b1 : S := sRet (cBi tupleM (aCons (cLc m__law_lengths_lc1_it [3] (tN 3) bYes m__law_lengths_lc1_elt) aNil))
noncomputable def M__law_lengths : List Clo → Clo := runDef [false, false, false] 1 (fun _ => m__law_lengths_b1)
noncomputable def m__law_written_out_lc1_it : MI := wArg rangeM1 (aCons (cBi lenM (aCons (cVar 5) aNil)) aNil)
noncomputable def m__law_written_out_lc1_elt : C := cOp modM (cBi toIntM (aCons (cOp addM (cOp mulM (cVar 2) (cOp ixM (cVar 5) (cVar 6))) (cIf (bVal (cOp gtM (cVar 6) (cK (.int 0)))) (cOp ixM (cVar 5) (cOp subM (cVar 6) (cK (.int 1)))) (cK (.int 0)))) aNil)) (cVar 0)
noncomputable def m__law_written_out_for1_it : MI := wSeq (cRev (cVar 1))
noncomputable def m__law_written_out_for1_body : S := sSeq (sAsg (cOp addM (cVar 3) (cLst (aCons (cK (.int 0)) aNil))) (tN 5)) (sSeq (sAsg (cLc m__law_written_out_lc1_it [6] (tN 6) bYes m__law_written_out_lc1_elt) (tN 3)) (sAsg (cOp modM (cBi toIntM (aCons (cOp addM (cOp ixM (cVar 3) (cK (.int 0))) (cVar 4)) aNil)) (cVar 0)) (tS (cVar 3) (cK (.int 0)))))
noncomputable def m__law_written_out_b4 : S := sRet (cVar 3)
noncomputable def m__law_written_out_b3 : S := sSeq (sFor m__law_written_out_for1_it (tN 4) m__law_written_out_for1_body) m__law_written_out_b4
noncomputable def m__law_written_out_b2 : S := sSeq (sAsg (cLst aNil) (tN 3)) m__law_written_out_b3
noncomputable def m__law_written_out_b1 : S := sSeq (sIf (bVal (cOp eqM (cVar 2) (cVar 0))) (sRet (cBi listM (aCons (cRev (cVar 1)) aNil))) sNext) m__law_written_out_b2
noncomputable def M__law_written_out : List Clo → Clo := runDef [false, false, false] 4 (fun _ => m__law_written_out_b1)
noncomputable def m__law_cell_b2 : S := sRet (cIf (bVal (cOp ltM (cVar 3) (cBi lenM (aCons (cVar 4) aNil)))) (cOp ixM (cVar 4) (cVar 3)) (cK (.int 0)))
noncomputable def m__law_cell_b1 : S := sSeq (sAsg (cCall 3 M__law_written_out (aCons (cOp ixM (cVar 0) (cK (.int 0))) (aCons (cVar 1) (aCons (cOp ixM (cOp ixM (cVar 0) (cK (.int 2))) (cVar 2)) aNil)))) (tN 4)) m__law_cell_b2
noncomputable def M__law_cell : List Clo → Clo := runDef [false, false, false, false] 1 (fun _ => m__law_cell_b1)
noncomputable def m__law_times_for2_it : MI := wArg enumM (aCons (cVar 2) aNil)
noncomputable def m__law_times_for2_body : S := sAsg (cOp modM (cBi toIntM (aCons (cOp addM (cOp ixM (cVar 3) (cOp addM (cVar 4) (cVar 6))) (cOp mulM (cVar 5) (cVar 7))) aNil)) (cVar 0)) (tS (cVar 3) (cOp addM (cVar 4) (cVar 6)))
noncomputable def m__law_times_for1_it : MI := wArg enumM (aCons (cVar 1) aNil)
noncomputable def m__law_times_for1_body : S := sFor m__law_times_for2_it (tT 2 (tsCons (tN 6) (tsCons (tN 7) tsNil))) m__law_times_for2_body
noncomputable def m__law_times_b3 : S := sRet (cBi tupleM (aCons (cVar 3) aNil))
noncomputable def m__law_times_b2 : S := sSeq (sFor m__law_times_for1_it (tT 2 (tsCons (tN 4) (tsCons (tN 5) tsNil))) m__law_times_for1_body) m__law_times_b3
noncomputable def m__law_times_b1 : S := sSeq (sAsg (cOp mulM (cLst (aCons (cK (.int 0)) aNil)) (cOp subM (cOp addM (cBi lenM (aCons (cVar 1) aNil)) (cBi lenM (aCons (cVar 2) aNil))) (cK (.int 1)))) (tN 3)) m__law_times_b2
noncomputable def M__law_times : List Clo → Clo := runDef [false, false, false] 5 (fun _ => m__law_times_b1)
noncomputable def m__law_line_b1 : S := sRet (cIf (bVal (cOp eqM (cVar 1) (cVar 0))) (cTup (aCons (cK (.int 1)) (aCons (cK (.int 0)) aNil))) (cTup (aCons (cOp modM (cBi toIntM (aCons (cOp subM (cVar 0) (cVar 1)) aNil)) (cVar 0)) (aCons (cK (.int 1)) aNil))))
noncomputable def M__law_line : List Clo → Clo := runDef [false, false] 0 (fun _ => m__law_line_b1)
noncomputable def m__law_product_for2_it : MI := wArg rangeM1 (aCons (cVar 4) aNil)
noncomputable def m__law_product_for2_body : S := sAsg (cCall 3 M__law_times (aCons (cOp ixM (cVar 0) (cK (.int 0))) (aCons (cVar 2) (aCons (cCall 2 M__law_line (aCons (cOp ixM (cVar 0) (cK (.int 0))) (aCons (cOp ixM (cOp ixM (cVar 0) (cK (.int 2))) (cVar 3)) aNil))) aNil)))) (tN 2)
noncomputable def m__law_product_for1_it : MI := wArg enumM (aCons (cVar 1) aNil)
noncomputable def m__law_product_for1_body : S := sFor m__law_product_for2_it (tN 5) m__law_product_for2_body
noncomputable def m__law_product_b3 : S := sRet (cVar 2)
noncomputable def m__law_product_b2 : S := sSeq (sFor m__law_product_for1_it (tT 2 (tsCons (tN 3) (tsCons (tN 4) tsNil))) m__law_product_for1_body) m__law_product_b3
noncomputable def m__law_product_b1 : S := sSeq (sAsg (cTup (aCons (cK (.int 1)) aNil)) (tN 2)) m__law_product_b2
noncomputable def M__law_product : List Clo → Clo := runDef [false, false] 4 (fun _ => m__law_product_b1)
noncomputable def m__law_greater_b1 : S := sRet (cIf (bOr (bVal (cOp isM (cVar 0) (cK .non))) (bVal (cOp isM (cVar 1) (cK .non)))) (cK .non) (cBi max2M (aCons (cVar 0) (aCons (cVar 1) aNil))))
noncomputable def M__law_greater : List Clo → Clo := runDef [false, false] 0 (fun _ => m__law_greater_b1)
noncomputable def m__law_lesser_b2 : S := sRet (cBi min2M (aCons (cVar 0) (aCons (cVar 1) aNil)))
noncomputable def m__law_lesser_b1 : S := sSeq (sIf (bOr (bVal (cOp isM (cVar 0) (cK .non))) (bVal (cOp isM (cVar 1) (cK .non)))) (sRet (cIf (bVal (cOp isM (cVar 0) (cK .non))) (cVar 1) (cVar 0))) sNext) m__law_lesser_b2
noncomputable def M__law_lesser : List Clo → Clo := runDef [false, false] 0 (fun _ => m__law_lesser_b1)
noncomputable def m__law_head_b2 : S := sRet (cIf (bOr (bVal (cOp isM (cVar 4) (cK .non))) (bVal (cOp isM (cVar 5) (cK .non)))) (cK (.int 0)) (cBi max2M (aCons (cK (.int 0)) (aCons (cOp subM (cOp subM (cVar 2) (cVar 5)) (cVar 4)) aNil))))
noncomputable def m__law_head_b1 : S := sSeq (sPar 4 5 (aCons (cCall 2 M__law_greater (aCons (cOp ixM (cVar 0) (cK (.int 1))) (aCons (cOp ixM (cVar 1) (cK (.int 1))) aNil))) (aCons (cIf (bTru (cVar 3)) (cCall 2 M__law_lesser (aCons (cOp ixM (cVar 0) (cK (.int 0))) (aCons (cOp ixM (cVar 1) (cK (.int 0))) aNil))) (cOp ixM (cVar 0) (cK (.int 0)))) aNil))) m__law_head_b2
noncomputable def M__law_head : List Clo → Clo := runDef [false, false, false, false] 2 (fun _ => m__law_head_b1)
noncomputable def m__law_bound_b1 : S := sRet (cCall 2 M__law_pick (aCons (cVar 0) (aCons (cLst (aCons (cK (.int 0)) (aCons (cK (.int 0)) (aCons (cK (.int 0)) (aCons (cK (.int 1)) (aCons (cK (.int 1)) (aCons (cK (.int 2)) (aCons (cK (.int 3)) (aCons (cK .non) aNil))))))))) aNil)))
noncomputable def M__law_bound : List Clo → Clo := runDef [false] 0 (fun _ => m__law_bound_b1)
noncomputable def m__law_row_lc1_it : MI := wArg rangeM1 (aCons (cVar 1) aNil)
noncomputable def m__law_row_lc1_elt : C := cTup (aCons (cCall 1 M__law_bound (aCons (cVar 0) aNil)) (aCons (cCall 1 M__law_bound (aCons (cVar 0) aNil)) aNil))
noncomputable def m__law_row_lc2_it : MI := wArg rangeM1 (aCons (cOp addM (cK (.int 1)) (cCall 2 M__law_draw (aCons (cVar 0) (aCons (cK (.int 2)) aNil)))) aNil)
noncomputable def m__law_row_lc2_elt : C := cCall 2 M__law_draw (aCons (cVar 0) (aCons (cVar 1) aNil))
noncomputable def m__law_row_lc3_it : MI := wArg rangeM1 (aCons (cVar 1) aNil)
noncomputable def m__law_row_lc3_elt : C := cIf (bVal (cOp inM (cVar 3) (cVar 2))) (cTup (aCons (cCall 1 M__law_bound (aCons (cVar 0) aNil)) (aCons (cCall 1 M__law_bound (aCons (cVar 0) aNil)) aNil))) (cTup (aCons (cK (.int 0)) (aCons (cK (.int 0)) aNil)))
noncomputable def m__law_row_b3 : S := sRet (cBi tupleM (aCons (cLc m__law_row_lc3_it [3] (tN 3) bYes m__law_row_lc3_elt) aNil))
noncomputable def m__law_row_b2 : S := sSeq (sAsg (cLc m__law_row_lc2_it [4] (tN 4) bYes m__law_row_lc2_elt) (tN 2)) m__law_row_b3
noncomputable def m__law_row_b1 : S := sSeq (sIf (bVal (cOp eqM (cCall 2 M__law_draw (aCons (cVar 0) (aCons (cK (.int 3)) aNil))) (cK (.int 0)))) (sRet (cBi tupleM (aCons (cLc m__law_row_lc1_it [3] (tN 3) bYes m__law_row_lc1_elt) aNil))) sNext) m__law_row_b2
noncomputable def M__law_row : List Clo → Clo := runDef [false, false] 3 (fun _ => m__law_row_b1)
noncomputable def m__law_book_lc1_it : MI := wArg rangeM1 (aCons (cVar 1) aNil)
noncomputable def m__law_book_lc1_elt : C := cIf (bVal (cOp eqM (cVar 5) (cVar 4))) (cVar 3) (cTup (aCons (cK (.int 0)) (aCons (cK (.int 0)) aNil)))
noncomputable def m__law_book_lc2_it : MI := wArg rangeM1 (aCons (cVar 1) aNil)
noncomputable def m__law_book_lc2_elt : C := cBi tupleM (aCons (cLc m__law_book_lc1_it [5] (tN 5) bYes m__law_book_lc1_elt) aNil)
noncomputable def m__law_book_lc3_it : MI := wArg rangeM1 (aCons (cOp addM (cK (.int 1)) (cCall 2 M__law_draw (aCons (cVar 0) (aCons (cK (.int 4)) aNil)))) aNil)
noncomputable def m__law_book_lc3_elt : C := cCall 2 M__law_row (aCons (cVar 0) (aCons (cVar 1) aNil))
noncomputable def m__law_book_b3 : S := sRet (cBi tupleM (aCons (cLc m__law_book_lc3_it [6] (tN 6) bYes m__law_book_lc3_elt) aNil))
noncomputable def m__law_book_b2 : S := sSeq (sIf (bVal (cOp ltM (cVar 2) (cK (.int 2)))) (sSeq (sAsg (cOp ixM (cLst (aCons (cTup (aCons (cK .non) (aCons (cK (.int 0)) aNil))) (aCons (cTup (aCons (cK (.int 0)) (aCons (cK .non) aNil))) aNil))) (cVar 2)) (tN 3)) (sRet (cBi tupleM (aCons (cLc m__law_book_lc2_it [4] (tN 4) bYes m__law_book_lc2_elt) aNil)))) sNext) m__law_book_b3
noncomputable def m__law_book_b1 : S := sSeq (sAsg (cCall 2 M__law_draw (aCons (cVar 0) (aCons (cK (.int 6)) aNil))) (tN 2)) m__law_book_b2
noncomputable def M__law_book : List Clo → Clo := runDef [false, false] 5 (fun _ => m__law_book_b1)
noncomputable def m__law_sums_lc1_it : MI := wArg enumM (aCons (cVar 2) aNil)
noncomputable def m__law_sums_lc1_elt : C := cCount (cSl (cVar 10) poNone (poSome (cOp ixM (cVar 8) (cVar 9)))) (aCons (cVar 3) aNil)
noncomputable def m__law_sums_lc2_it : MI := wArg enumM (aCons (cVar 2) aNil)
noncomputable def m__law_sums_lc2_elt : C := cCall 4 M__law_head (aCons (cOp ixM (cVar 5) (cVar 9)) (aCons (cOp ixM (cVar 7) (cVar 9)) (aCons (cBi lenM (aCons (cVar 10) aNil)) (aCons (cVar 1) aNil))))
noncomputable def m__law_sums_for2_it : MI := wSeq (cVar 0)
noncomputable def m__law_sums_for2_body : S := sSeq (sAsg (cLc m__law_sums_lc2_it [9, 10] (tT 2 (tsCons (tN 9) (tsCons (tN 10) tsNil))) bYes m__law_sums_lc2_elt) (tN 8)) (sExpr (cMethL appendM (cVar 6) (aCons (cBi sumM (aCons (cLc m__law_sums_lc1_it [9, 10] (tT 2 (tsCons (tN 9) (tsCons (tN 10) tsNil))) bYes m__law_sums_lc1_elt) aNil)) aNil)))
noncomputable def m__law_sums_for1_it : MI := wSeq (cVar 0)
noncomputable def m__law_sums_for1_body : S := sSeq (sAsg (cLst aNil) (tN 6)) (sSeq (sFor m__law_sums_for2_it (tN 7) m__law_sums_for2_body) (sExpr (cMethL appendM (cVar 4) (aCons (cBi tupleM (aCons (cVar 6) aNil)) aNil))))
noncomputable def m__law_sums_b3 : S := sRet (cBi tupleM (aCons (cVar 4) aNil))
noncomputable def m__law_sums_b2 : S := sSeq (sFor m__law_sums_for1_it (tN 5) m__law_sums_for1_body) m__law_sums_b3
noncomputable def m__law_sums_b1 : S := sSeq (sAsg (cLst aNil) (tN 4)) m__law_sums_b2
noncomputable def M__law_sums : List Clo → Clo := runDef [false, false, false, false] 7 (fun _ => m__law_sums_b1)
noncomputable def m__law_least_lc1_it : MI := wSeq (cVar 0)
noncomputable def m__law_least_lc1_elt : C := cBi min1XM (aCons (cVar 1) aNil)
noncomputable def m__law_least_b1 : S := sRet (cBi min1XM (aCons (cLc m__law_least_lc1_it [1] (tN 1) bYes m__law_least_lc1_elt) aNil))
noncomputable def M__law_least : List Clo → Clo := runDef [false] 1 (fun _ => m__law_least_b1)
noncomputable def m__law_events_about_lc1_it : MI := wArg rangeM1 (aCons (cVar 1) aNil)
noncomputable def m__law_events_about_lc1_elt : C := cTup aNil
noncomputable def m__law_events_about_for1_it : MI := wArg rangeM1 (aCons (cOp addM (cOp mulM (cK (.int 4)) (cVar 6)) (cK (.int 12))) aNil)
noncomputable def m__law_events_about_for1_body : S := sSeq (sIf (bVal (cOp geM (cCall 1 M__law_least (aCons (cCall 4 M__law_sums (aCons (cVar 2) (aCons (cVar 3) (aCons (cBi tupleM (aCons (cVar 7) aNil)) (aCons (cVar 5) aNil))))) aNil)) (cVar 9))) sBk sNext) (sSeq (sAsg (cCall 2 M__law_draw (aCons (cVar 0) (aCons (cVar 1) aNil))) (tN 12)) (sSeq (sIf (bVal (cOp eqM (cVar 12) (cVar 10))) (sAsg (cCall 2 M__law_draw (aCons (cVar 0) (aCons (cVar 1) aNil))) (tN 12)) sNext) (sSeq (sAsg (cIf (bVal (cOp gtM (cCall 2 M__law_draw (aCons (cVar 0) (aCons (cK (.int 4)) aNil))) (cK (.int 0)))) (cVar 5) (cCall 2 M__law_draw (aCons (cVar 0) (aCons (cVar 4) aNil)))) (tN 13)) (sSeq (sAsg (cOp addM (cOp ixM (cVar 7) (cVar 12)) (cTup (aCons (cVar 13) aNil))) (tS (cVar 7) (cVar 12))) (sExpr (cMethL appendM (cVar 8) (aCons (cTup (aCons (cVar 12) (aCons (cVar 13) aNil))) aNil)))))))
noncomputable def m__law_events_about_b4 : S := sRet (cBi tupleM (aCons (cVar 8) aNil))
noncomputable def m__law_events_about_b3 : S := sSeq (sFor m__law_events_about_for1_it (tN 11) m__law_events_about_for1_body) m__law_events_about_b4
noncomputable def m__law_events_about_b2 : S := sSeq (sAsg (cCall 2 M__law_draw (aCons (cVar 0) (aCons (cVar 1) aNil))) (tN 10)) m__law_events_about_b3
noncomputable def m__law_events_about_b1 : S := sSeq (sPar3 7 8 9 (aCons (cLc m__law_events_about_lc1_it [12] (tN 12) bYes m__law_events_about_lc1_elt) (aCons (cLst aNil) (aCons (cBi max2M (aCons (cK (.int 1)) (aCons (cOp addM (cOp subM (cVar 6) (cK (.int 1))) (cCall 2 M__law_draw (aCons (cVar 0) (aCons (cK (.int 3)) aNil)))) aNil))) aNil)))) m__law_events_about_b2
noncomputable def M__law_events_about : List Clo → Clo := runDef [false, false, false, false, false, false, false] 7 (fun _ => m__law_events_about_b1)
noncomputable def m__law_behind_lc1_it : MI := wArg rangeM1 (aCons (cVar 0) aNil)
noncomputable def m__law_behind_lc1_elt : C := cTup aNil
noncomputable def m__law_behind_for1_it : MI := wSeq (cVar 1)
noncomputable def m__law_behind_for1_body : S := sAsg (cOp addM (cOp ixM (cVar 2) (cVar 3)) (cTup (aCons (cVar 4) aNil))) (tS (cVar 2) (cVar 3))
noncomputable def m__law_behind_b3 : S := sRet (cBi tupleM (aCons (cVar 2) aNil))
noncomputable def m__law_behind_b2 : S := sSeq (sFor m__law_behind_for1_it (tT 2 (tsCons (tN 3) (tsCons (tN 4) tsNil))) m__law_behind_for1_body) m__law_behind_b3
noncomputable def m__law_behind_b1 : S := sSeq (sAsg (cLc m__law_behind_lc1_it [3] (tN 3) bYes m__law_behind_lc1_elt) (tN 2)) m__law_behind_b2
noncomputable def M__law_behind : List Clo → Clo := runDef [false, false] 3 (fun _ => m__law_behind_b1)
noncomputable def m__law_is_whole_b1 : S := sRet (cAnd (cIsi "int" (cVar 0)) (cNot (cIsi "bool" (cVar 0))))
noncomputable def M__law_is_whole : List Clo → Clo := runDef [false] 0 (fun _ => m__law_is_whole_b1)
noncomputable def m__law_weaving_lc1_it : MI := wArg rangeM1 (aCons (cCall 2 M__law_draw (aCons (cVar 0) (aCons (cOp addM (cVar 3) (cK (.int 1))) aNil))) aNil)
noncomputable def m__law_weaving_lc1_elt : C := cCall 2 M__law_draw (aCons (cVar 0) (aCons (cVar 2) aNil))
noncomputable def m__law_weaving_for1_it : MI := wArg rangeM1 (aCons (cVar 1) aNil)
noncomputable def m__law_weaving_for1_body : S := sExpr (cMethL appendM (cVar 4) (aCons (cBi tupleM (aCons (cLc m__law_weaving_lc1_it [6] (tN 6) bYes m__law_weaving_lc1_elt) aNil)) aNil))
noncomputable def m__law_weaving_b3 : S := sRet (cBi tupleM (aCons (cVar 4) aNil))
noncomputable def m__law_weaving_b2 : S := sSeq (sFor m__law_weaving_for1_it (tN 5) m__law_weaving_for1_body) m__law_weaving_b3
noncomputable def m__law_weaving_b1 : S := sSeq (sAsg (cLst aNil) (tN 4)) m__law_weaving_b2
noncomputable def M__law_weaving : List Clo → Clo := runDef [false, false, false, false] 3 (fun _ => m__law_weaving_b1)
noncomputable def m__law_truth_b1 : S := sRet (cIf (bTru (cIsi "bool" (cVar 0))) (cBi toIntM (aCons (cVar 0) aNil)) (cNeg (cK (.int 1))))
noncomputable def M__law_truth : List Clo → Clo := runDef [false] 0 (fun _ => m__law_truth_b1)
noncomputable def m__law_stopped_for1_it : MI := wArg zipKM (aCons (cVar 0) (aCons (cVar 1) aNil))
noncomputable def m__law_stopped_for1_body : S := sSeq (sAsg (cOp subM (cOp subM (cBi lenM (aCons (cVar 3) aNil)) (cOp ixM (cVar 4) (cK (.int 0)))) (cBi lenM (aCons (cOp ixM (cVar 4) (cK (.int 1))) aNil))) (tN 5)) (sExpr (cMethL appendM (cVar 2) (aCons (cOp addM (cSl (cVar 3) poNone (poSome (cVar 5))) (cOp ixM (cVar 4) (cK (.int 1)))) aNil)))
noncomputable def m__law_stopped_b3 : S := sRet (cBi tupleM (aCons (cVar 2) aNil))
noncomputable def m__law_stopped_b2 : S := sSeq (sFor m__law_stopped_for1_it (tT 2 (tsCons (tN 3) (tsCons (tN 4) tsNil))) m__law_stopped_for1_body) m__law_stopped_b3
noncomputable def m__law_stopped_b1 : S := sSeq (sAsg (cLst aNil) (tN 2)) m__law_stopped_b2
noncomputable def M__law_stopped : List Clo → Clo := runDef [false, false] 4 (fun _ => m__law_stopped_b1)

abbrev errsL : List Str := ["BadGround", "BadBatch", "BadShelf", "BadPlace"]
abbrev hnsL : List Str := errsL ++ [("Refused" : Str)]
noncomputable def m__law_heard_b1 (φ_call : Clo) : S := sTry errsL (sRet (cTup (aCons (cK (.str "told")) (aCons (cCallP φ_call aNil) aNil)))) [("BadGround", some (1, "error"), fun d => sRet (cTup (aCons (cK (.str "BadGround")) (aCons (cK d) aNil)))), ("BadBatch", some (1, "error"), fun d => sRet (cTup (aCons (cK (.str "BadBatch")) (aCons (cK d) aNil)))), ("BadShelf", some (1, "error"), fun d => sRet (cTup (aCons (cK (.str "BadShelf")) (aCons (cK d) aNil)))), ("BadPlace", some (1, "error"), fun d => sRet (cTup (aCons (cK (.str "BadPlace")) (aCons (cK d) aNil)))), ("Refused", none, fun _ => sRet (cTup (aCons (cK (.str "another")) (aCons (cK (.int 0)) aNil))))]
noncomputable def M__law_heard : List Clo → Clo := runDef [true] 1 (fun fs => match fs with | [φ_call] => (m__law_heard_b1 φ_call) | _ => fun _ _ => .no)
noncomputable def m__law_is_b2 (φ_call : Clo) : S := sRet (cAnd (cOp eqM (cOp ixM (cVar 3) (cK (.int 0))) (cVar 1)) (cOp eqM (cBi reprM (aCons (cOp ixM (cVar 3) (cK (.int 1))) aNil)) (cBi reprM (aCons (cVar 2) aNil))))
noncomputable def m__law_is_b1 (φ_call : Clo) : S := sSeq (sAsg (cCallF M__law_heard (afSlot φ_call)) (tN 3)) (m__law_is_b2 φ_call)
noncomputable def M__law_is : List Clo → Clo := runDef [true, false, false] 1 (fun fs => match fs with | [φ_call] => (m__law_is_b1 φ_call) | _ => fun _ _ => .no)
noncomputable def m__law_refused_lam1 : C := cCall 3 M_equation (aCons (cVar 0) (aCons (cVar 1) (aCons (cNeg (cK (.int 1))) aNil)))
noncomputable def m__law_refused_for1_it : MI := wSeq (cLst (aCons (cNeg (cK (.int 1))) (aCons (cBi lenM (aCons (cVar 3) aNil)) (aCons (cK (.bl false)) (aCons (cK .non) (aCons (cK (.str "1")) aNil))))))
noncomputable def m__law_refused_for1_body : S := sIf (bNot (bTru (cCallF M__law_is (afLamA 0 0 [0, 4] m__law_refused_lam1 2 (aCons (cK (.str "BadShelf")) (aCons (cVar 4) aNil)))))) (sRet (cK (.bl false))) sNext
noncomputable def m__law_refused_lam2 : C := cCall 3 M_equation (aCons (cVar 0) (aCons (cK (.int 0)) (aCons (cVar 1) aNil)))
noncomputable def m__law_refused_for2_it : MI := wSeq (cLst (aCons (cNeg (cK (.int 1))) (aCons (cK (.int 1024)) (aCons (cOp powM (cK (.int 10)) (cK (.int 9))) (aCons (cK (.bl true)) (aCons (cK .non) aNil))))))
noncomputable def m__law_refused_for2_body : S := sIf (bNot (bTru (cCallF M__law_is (afLamA 0 0 [0, 5] m__law_refused_lam2 2 (aCons (cK (.str "BadPlace")) (aCons (cVar 5) aNil)))))) (sRet (cK (.bl false))) sNext
noncomputable def m__law_refused_lam3 : C := cCall 3 M_equation (aCons (cTup (aCons (cVar 0) (aCons (cK (.int 13)) (aCons (cVar 1) aNil)))) (aCons (cNeg (cK (.int 1))) (aCons (cNeg (cK (.int 1))) aNil)))
noncomputable def m__law_refused_b4 : S := sRet (cCallF M__law_is (afLamA 0 0 [1, 3] m__law_refused_lam3 2 (aCons (cK (.str "BadGround")) (aCons (cK (.int 1)) aNil))))
noncomputable def m__law_refused_b3 : S := sSeq (sFor m__law_refused_for2_it (tN 5) m__law_refused_for2_body) m__law_refused_b4
noncomputable def m__law_refused_b2 : S := sSeq (sFor m__law_refused_for1_it (tN 4) m__law_refused_for1_body) m__law_refused_b3
noncomputable def m__law_refused_b1 : S := sSeq (sAsg (cVar 0) (tT 3 (tsCons (tN 1) (tsCons (tN 2) (tsCons (tN 3) tsNil))))) m__law_refused_b2
noncomputable def M__law_refused : List Clo → Clo := runDef [false] 5 (fun _ => m__law_refused_b1)
noncomputable def m_law_lc1_it : MI := wArg rangeM1 (aCons (cVar 4) aNil)
noncomputable def m_law_lc1_elt : C := cBi toIntM (aCons (cOp eqM (cVar 13) (cVar 10)) aNil)
noncomputable def m_law_lc2_it : MI := wArg rangeM1 (aCons (cVar 4) aNil)
noncomputable def m_law_lc2_elt : C := cOp mulM (cOp ixM (cVar 9) (cVar 10)) (cOp ixM (cVar 6) (cVar 10))
noncomputable def m_law_lc3_it : MI := wSeq (cVar 9)
noncomputable def m_law_lc3_elt : C := cVar 12
noncomputable def m_law_lc3_if : B := bOr (bNot (bTru (cCall 1 M__law_is_whole (aCons (cVar 12) aNil)))) (bNot (bVal (cChain leM ltM (cK (.int 0)) (cVar 12) (cVar 3))))
noncomputable def m_law_for1_it : MI := wArg rangeM1 (aCons (cBi lenM (aCons (cVar 5) aNil)) aNil)
noncomputable def m_law_for1_body : S := sSeq (sAsg (cCall 2 M__law_draw (aCons (cVar 1) (aCons (cVar 4) aNil))) (tN 8)) (sSeq (sAsg (cCall 3 M_equation (aCons (cVar 2) (aCons (cVar 7) (aCons (cVar 8) aNil)))) (tN 9)) (sSeq (sIf (bOr (bNot (bTru (cIsi "tuple" (cVar 9)))) (bVal (cOp neM (cBi lenM (aCons (cVar 9) aNil)) (cVar 4)))) (sRet (cK (.bl false))) sNext) (sSeq (sIf (bVal (cOp neM (cLc m_law_lc3_it [12] (tN 12) m_law_lc3_if m_law_lc3_elt) (cLst aNil))) (sRet (cK (.bl false))) sNext) (sSeq (sIf (bVal (cOp neM (cOp modM (cBi toIntM (aCons (cBi sumM (aCons (cLc m_law_lc2_it [10] (tN 10) bYes m_law_lc2_elt) aNil)) aNil)) (cVar 3)) (cCall 4 M__law_cell (aCons (cVar 2) (aCons (cVar 6) (aCons (cVar 7) (aCons (cVar 8) aNil))))))) (sRet (cK (.bl false))) sNext) (sSeq (sAsg (cCall 2 M__law_draw (aCons (cVar 1) (aCons (cVar 4) aNil))) (tN 10)) (sSeq (sAsg (cBi tupleM (aCons (cLc m_law_lc1_it [13] (tN 13) bYes m_law_lc1_elt) aNil)) (tN 11)) (sSeq (sIf (bVal (cOp neM (cOp ixM (cVar 9) (cVar 10)) (cCall 4 M__law_cell (aCons (cVar 2) (aCons (cVar 11) (aCons (cVar 7) (aCons (cVar 8) aNil))))))) (sRet (cK (.bl false))) sNext) (sIf (bOr (bVal (cOp neM (cCall 3 M_equation (aCons (cVar 2) (aCons (cVar 7) (aCons (cVar 4) aNil)))) (cOp mulM (cTup (aCons (cK (.int 0)) aNil)) (cVar 4)))) (bVal (cOp neM (cCall 3 M_equation (aCons (cVar 2) (aCons (cVar 7) (aCons (cK (.int 1023)) aNil)))) (cOp mulM (cTup (aCons (cK (.int 0)) aNil)) (cVar 4))))) (sRet (cK (.bl false))) sNext))))))))
noncomputable def m_law_b6 : S := sRet (cCall 1 M__law_refused (aCons (cVar 2) aNil))
noncomputable def m_law_b5 : S := sSeq (sFor m_law_for1_it (tN 7) m_law_for1_body) m_law_b6
noncomputable def m_law_b4 : S := sSeq (sAsg (cCall 2 M__law_batch (aCons (cVar 1) (aCons (cVar 2) aNil))) (tN 6)) m_law_b5
noncomputable def m_law_b3 : S := sSeq (sAsg (cVar 2) (tT 3 (tsCons (tN 3) (tsCons (tN 4) (tsCons (tN 5) tsNil))))) m_law_b4
noncomputable def m_law_b2 : S := sSeq (sAsg (cCall 3 M__law_ground (aCons (cVar 1) (aCons (cK (.int 12)) (aCons (cK (.int 8)) aNil)))) (tN 2)) m_law_b3
noncomputable def m_law_b1 : S := sSeq (sAsg (cCall 1 M__law_pool (aCons (cVar 0) aNil)) (tN 1)) m_law_b2
noncomputable def M_law : List Clo → Clo := runDef [false] 13 (fun _ => m_law_b1)

/-- None or a number -/
def bd : Option Int → D
  | none => .non
  | some i => .int i
def atMostO (a b : Option Int) : Bool := match a, b with
  | _, none => true
  | some i, some j => decide (i ≤ j)
  | none, some _ => false
theorem at_most_eq (a b : Option Int) (st : Sto) : M_at_most [] [bd a, bd b] st = .ok (.bl (atMostO a b)) st := by
  cases a <;> cases b <;> simp [runDef, plains, startM, outR, sRet, sSeq, sIf, sAsg, sNext, sExpr, sRaise, sRetN, sAug, sPar, thenS, tN, cVar, cK, cOp, cIf, cAnd, cOr, cNot, cNotT, cNeg, cChain, cTup, cLst, cBi, cCall, cCallF, cCallP, cIsi,   aNil, aCons, afNil, afCons, afDef, afSlot, afLam, bVal, bTru, bAnd, bOr, bNot, R.bind, lift, isM, isNotM, isB, leM, ltM, geM, gtM, intM, subM, modM, divM, mulM, addM, ixM, truM, tyName, isiT, itemsOf, lenM, iaddM, isubM, min2M, max2M, eqM_int, neM_int, small_size, small_size2, M_at_most, m_at_most_b1, bd, atMostO]
theorem lesser_eq (a b : Option Int) (st : Sto) : M_lesser [] [bd a, bd b] st = .ok (bd (if atMostO a b = true then a else b)) st := by
  cases h : atMostO a b <;> simp [runDef, plains, startM, outR, sRet, sSeq, sIf, sAsg, sNext, sExpr, sRaise, sRetN, sAug, sPar, thenS, tN, cVar, cK, cOp, cIf, cAnd, cOr, cNot, cNotT, cNeg, cChain, cTup, cLst, cBi, cCall, cCallF, cCallP, cIsi,   aNil, aCons, afNil, afCons, afDef, afSlot, afLam, bVal, bTru, bAnd, bOr, bNot, R.bind, lift, isM, isNotM, isB, leM, ltM, geM, gtM, intM, subM, modM, divM, mulM, addM, ixM, truM, tyName, isiT, itemsOf, lenM, iaddM, isubM, min2M, max2M, eqM_int, neM_int, small_size, small_size2, M_lesser, m_lesser_b1, at_most_eq, h]
theorem greater_eq (a b : Option Int) (st : Sto) : M_greater [] [bd a, bd b] st = .ok (bd (if atMostO a b = true then b else a)) st := by
  cases h : atMostO a b <;> simp [runDef, plains, startM, outR, sRet, sSeq, sIf, sAsg, sNext, sExpr, sRaise, sRetN, sAug, sPar, thenS, tN, cVar, cK, cOp, cIf, cAnd, cOr, cNot, cNotT, cNeg, cChain, cTup, cLst, cBi, cCall, cCallF, cCallP, cIsi,   aNil, aCons, afNil, afCons, afDef, afSlot, afLam, bVal, bTru, bAnd, bOr, bNot, R.bind, lift, isM, isNotM, isB, leM, ltM, geM, gtM, intM, subM, modM, divM, mulM, addM, ixM, truM, tyName, isiT, itemsOf, lenM, iaddM, isubM, min2M, max2M, eqM_int, neM_int, small_size, small_size2, M_greater, m_greater_b1, at_most_eq, h]
theorem is_number_int (i : Int) (st : Sto) : M_is_number [] [.int i] st = .ok (.bl true) st := by simp [runDef, plains, startM, outR, sRet, sSeq, sIf, sAsg, sNext, sExpr, sRaise, sRetN, sAug, sPar, thenS, tN, cVar, cK, cOp, cIf, cAnd, cOr, cNot, cNotT, cNeg, cChain, cTup, cLst, cBi, cCall, cCallF, cCallP, cIsi,   aNil, aCons, afNil, afCons, afDef, afSlot, afLam, bVal, bTru, bAnd, bOr, bNot, R.bind, lift, isM, isNotM, isB, leM, ltM, geM, gtM, intM, subM, modM, divM, mulM, addM, ixM, truM, tyName, isiT, itemsOf, lenM, iaddM, isubM, min2M, max2M, eqM_int, neM_int, small_size, small_size2, M_is_number, m_is_number_b1]
theorem number_between_int (i l m : Int) (st : Sto) : M_number_between [] [.int i, .int l, .int m] st = .ok (.bl (decide (l ≤ i) && decide (i ≤ m))) st := by
  by_cases h : l ≤ i <;> simp [runDef, plains, startM, outR, sRet, sSeq, sIf, sAsg, sNext, sExpr, sRaise, sRetN, sAug, sPar, thenS, tN, cVar, cK, cOp, cIf, cAnd, cOr, cNot, cNotT, cNeg, cChain, cTup, cLst, cBi, cCall, cCallF, cCallP, cIsi,   aNil, aCons, afNil, afCons, afDef, afSlot, afLam, bVal, bTru, bAnd, bOr, bNot, R.bind, lift, isM, isNotM, isB, leM, ltM, geM, gtM, intM, subM, modM, divM, mulM, addM, ixM, truM, tyName, isiT, itemsOf, lenM, iaddM, isubM, min2M, max2M, eqM_int, neM_int, small_size, small_size2, M_number_between, m_number_between_b1, is_number_int, h]
/-- a function of one value that changes nothing, on the values of a list -/
def PureOn (φ : Clo) (st : Sto) (f : D → Bool) (xs : List D) : Prop := ∀ x ∈ xs, φ [x] st = .ok (.bl (f x)) st
def firstBad (f : D → Bool) : Nat → List D → Option Nat
  | _, [] => none
  | k, x :: xs => if f x = true then firstBad f (k + 1) xs else some k
theorem tuple_fault_loop {φ : Clo} {f : D → Bool} {a b c : Option D} : ∀ (xs : List D) (k : Nat) (u v : Option D) (st : Sto), PureOn φ st f xs →
    ∃ u' v', loopF (okW []) (tT 2 (tsCons (tN 4) (tsCons (tN 5) tsNil))) (m_tuple_fault_for1_body φ) (enumL k xs) [a, b, c, none, u, v] st = match firstBad f k xs with
      | some i => .rt (.int (i : Nat)) st
      | none => .nx [a, b, c, none, u', v'] st
  | [], k, u, v, st, h => ⟨u, v, loopF_nil okW_nil⟩
  | x :: xs, k, u, v, st, h => by
    have h1 := h x List.mem_cons_self
    obtain ⟨u', v', ih⟩ := tuple_fault_loop (a := a) (b := b) (c := c) xs (k + 1) (some (.int k)) (some x) st fun y hy => h y (List.mem_cons_of_mem _ hy)
    refine ⟨u', v', ?_⟩
    unfold enumL firstBad
    have ht : tT 2 (tsCons (tN 4) (tsCons (tN 5) tsNil)) (.wt [.int (k : Nat), x]) [a, b, c, none, u, v] st = some ([a, b, c, none, some (.int (k : Nat)), some x], st) := rfl
    cases hf : f x
    · rw [loopF_rt (ρ1 := [a, b, c, none, some (.int (k : Nat)), some x]) (x := .int (k : Nat)) (s2 := st) okW_nil ht (by simp [runDef, plains, startM, outR, sRet, sSeq, sIf, sAsg, sNext, sExpr, sRaise, sRetN, sAug, sPar, thenS, tN, cVar, cK, cOp, cIf, cAnd, cOr, cNot, cNotT, cNeg, cChain, cTup, cLst, cBi, cCall, cCallF, cCallP, cIsi,   aNil, aCons, afNil, afCons, afDef, afSlot, afLam, bVal, bTru, bAnd, bOr, bNot, R.bind, lift, isM, isNotM, isB, leM, ltM, geM, gtM, intM, subM, modM, divM, mulM, addM, ixM, truM, tyName, isiT, itemsOf, lenM, iaddM, isubM, min2M, max2M, eqM_int, neM_int, small_size, small_size2, m_tuple_fault_for1_body, h1, hf])]
      rfl
    · rw [loopF_nx (ρ1 := [a, b, c, none, some (.int (k : Nat)), some x]) (ρ2 := [a, b, c, none, some (.int (k : Nat)), some x]) (s2 := st) okW_nil ht (by simp [runDef, plains, startM, outR, sRet, sSeq, sIf, sAsg, sNext, sExpr, sRaise, sRetN, sAug, sPar, thenS, tN, cVar, cK, cOp, cIf, cAnd, cOr, cNot, cNotT, cNeg, cChain, cTup, cLst, cBi, cCall, cCallF, cCallP, cIsi,   aNil, aCons, afNil, afCons, afDef, afSlot, afLam, bVal, bTru, bAnd, bOr, bNot, R.bind, lift, isM, isNotM, isB, leM, ltM, geM, gtM, intM, subM, modM, divM, mulM, addM, ixM, truM, tyName, isiT, itemsOf, lenM, iaddM, isubM, min2M, max2M, eqM_int, neM_int, small_size, small_size2, m_tuple_fault_for1_body, h1, hf]), ih]
      rfl
def optD : Option Nat → D
  | none => .non
  | some i => .int (i : Nat)
def inLen (xs : List D) (l m : Int) : Bool := decide (l ≤ (xs.length : Int)) && decide ((xs.length : Int) ≤ m)
theorem tuple_fault_eq {φ : Clo} {f : D → Bool} {xs : List D} {l m : Int} {st : Sto} (h : inLen xs l m = true → PureOn φ st f xs) :
    M_tuple_fault [φ] [.tup xs, .int l, .int m] st = .ok (if inLen xs l m = true then optD (firstBad f 0 xs) else .int (-1)) st := by
  cases hl : inLen xs l m
  · unfold inLen at hl
    by_cases h1 : l ≤ (xs.length : Int)
    · have h2 : ¬ (xs.length : Int) ≤ m := by simpa [h1] using hl
      simp [runDef, plains, startM, outR, sRet, sSeq, sIf, sAsg, sNext, sExpr, sRaise, sRetN, sAug, sPar, thenS, tN, cVar, cK, cOp, cIf, cAnd, cOr, cNot, cNotT, cNeg, cChain, cTup, cLst, cBi, cCall, cCallF, cCallP, cIsi,   aNil, aCons, afNil, afCons, afDef, afSlot, afLam, bVal, bTru, bAnd, bOr, bNot, R.bind, lift, isM, isNotM, isB, leM, ltM, geM, gtM, intM, subM, modM, divM, mulM, addM, ixM, truM, tyName, isiT, itemsOf, lenM, iaddM, isubM, min2M, max2M, eqM_int, neM_int, small_size, small_size2, M_tuple_fault, m_tuple_fault_b1, h1, h2]
    · simp [runDef, plains, startM, outR, sRet, sSeq, sIf, sAsg, sNext, sExpr, sRaise, sRetN, sAug, sPar, thenS, tN, cVar, cK, cOp, cIf, cAnd, cOr, cNot, cNotT, cNeg, cChain, cTup, cLst, cBi, cCall, cCallF, cCallP, cIsi,   aNil, aCons, afNil, afCons, afDef, afSlot, afLam, bVal, bTru, bAnd, bOr, bNot, R.bind, lift, isM, isNotM, isB, leM, ltM, geM, gtM, intM, subM, modM, divM, mulM, addM, ixM, truM, tyName, isiT, itemsOf, lenM, iaddM, isubM, min2M, max2M, eqM_int, neM_int, small_size, small_size2, M_tuple_fault, m_tuple_fault_b1, h1]
  · obtain ⟨u', v', e⟩ := tuple_fault_loop (a := some (.tup xs)) (b := some (.int l)) (c := some (.int m)) xs 0 none none st (h hl)
    unfold inLen at hl
    have h1 : l ≤ (xs.length : Int) := by simp at hl; exact hl.1
    have h2 : (xs.length : Int) ≤ m := by simp at hl; exact hl.2
    cases hb : firstBad f 0 xs with
    | none =>
      rw [hb] at e
      simp [runDef, plains, startM, outR, sRet, sSeq, sIf, sAsg, sNext, sExpr, sRaise, sRetN, sAug, sPar, thenS, tN, cVar, cK, cOp, cIf, cAnd, cOr, cNot, cNotT, cNeg, cChain, cTup, cLst, cBi, cCall, cCallF, cCallP, cIsi,   aNil, aCons, afNil, afCons, afDef, afSlot, afLam, bVal, bTru, bAnd, bOr, bNot, R.bind, lift, isM, isNotM, isB, leM, ltM, geM, gtM, intM, subM, modM, divM, mulM, addM, ixM, truM, tyName, isiT, itemsOf, lenM, iaddM, isubM, min2M, max2M, eqM_int, neM_int, small_size, small_size2, M_tuple_fault, m_tuple_fault_b1, m_tuple_fault_b2, m_tuple_fault_b3, h1, h2, sFor, m_tuple_fault_for1_it, wArg, enumM, e, optD]
    | some i =>
      rw [hb] at e
      simp [runDef, plains, startM, outR, sRet, sSeq, sIf, sAsg, sNext, sExpr, sRaise, sRetN, sAug, sPar, thenS, tN, cVar, cK, cOp, cIf, cAnd, cOr, cNot, cNotT, cNeg, cChain, cTup, cLst, cBi, cCall, cCallF, cCallP, cIsi,   aNil, aCons, afNil, afCons, afDef, afSlot, afLam, bVal, bTru, bAnd, bOr, bNot, R.bind, lift, isM, isNotM, isB, leM, ltM, geM, gtM, intM, subM, modM, divM, mulM, addM, ixM, truM, tyName, isiT, itemsOf, lenM, iaddM, isubM, min2M, max2M, eqM_int, neM_int, small_size, small_size2, M_tuple_fault, m_tuple_fault_b1, m_tuple_fault_b2, m_tuple_fault_b3, h1, h2, sFor, m_tuple_fault_for1_it, wArg, enumM, e, optD]
theorem firstBad_all {f : D → Bool} : ∀ {xs : List D} {k : Nat}, firstBad f k xs = none ↔ xs.all f = true
  | [], k => by simp [firstBad]
  | x :: xs, k => by
    unfold firstBad
    cases h : f x
    · simp [h]
    · simp [h, firstBad_all (xs := xs) (k := k + 1)]
theorem tuple_fits_eq {φ : Clo} {f : D → Bool} {xs : List D} {l m : Int} {st : Sto} (h : inLen xs l m = true → PureOn φ st f xs) :
    M_tuple_fits [φ] [.tup xs, .int l, .int m] st = .ok (.bl (inLen xs l m && xs.all f)) st := by
  simp [runDef, plains, startM, outR, sRet, sSeq, sIf, sAsg, sNext, sExpr, sRaise, sRetN, sAug, sPar, thenS, tN, cVar, cK, cOp, cIf, cAnd, cOr, cNot, cNotT, cNeg, cChain, cTup, cLst, cBi, cCall, cCallF, cCallP, cIsi,   aNil, aCons, afNil, afCons, afDef, afSlot, afLam, bVal, bTru, bAnd, bOr, bNot, R.bind, lift, isM, isNotM, isB, leM, ltM, geM, gtM, intM, subM, modM, divM, mulM, addM, ixM, truM, tyName, isiT, itemsOf, lenM, iaddM, isubM, min2M, max2M, eqM_int, neM_int, small_size, small_size2, M_tuple_fits, m_tuple_fits_b1, tuple_fault_eq h]
  cases hl : inLen xs l m
  · simp [runDef, plains, startM, outR, sRet, sSeq, sIf, sAsg, sNext, sExpr, sRaise, sRetN, sAug, sPar, thenS, tN, cVar, cK, cOp, cIf, cAnd, cOr, cNot, cNotT, cNeg, cChain, cTup, cLst, cBi, cCall, cCallF, cCallP, cIsi,   aNil, aCons, afNil, afCons, afDef, afSlot, afLam, bVal, bTru, bAnd, bOr, bNot, R.bind, lift, isM, isNotM, isB, leM, ltM, geM, gtM, intM, subM, modM, divM, mulM, addM, ixM, truM, tyName, isiT, itemsOf, lenM, iaddM, isubM, min2M, max2M, eqM_int, neM_int, small_size, small_size2]
  · cases hb : firstBad f 0 xs with
    | none => simp [runDef, plains, startM, outR, sRet, sSeq, sIf, sAsg, sNext, sExpr, sRaise, sRetN, sAug, sPar, thenS, tN, cVar, cK, cOp, cIf, cAnd, cOr, cNot, cNotT, cNeg, cChain, cTup, cLst, cBi, cCall, cCallF, cCallP, cIsi,   aNil, aCons, afNil, afCons, afDef, afSlot, afLam, bVal, bTru, bAnd, bOr, bNot, R.bind, lift, isM, isNotM, isB, leM, ltM, geM, gtM, intM, subM, modM, divM, mulM, addM, ixM, truM, tyName, isiT, itemsOf, lenM, iaddM, isubM, min2M, max2M, eqM_int, neM_int, small_size, small_size2, optD, firstBad_all.mp hb]
    | some i =>
      have : xs.all f = false := by
        cases e : xs.all f
        · rfl
        · rw [firstBad_all.mpr e] at hb
          cases hb
      simp [runDef, plains, startM, outR, sRet, sSeq, sIf, sAsg, sNext, sExpr, sRaise, sRetN, sAug, sPar, thenS, tN, cVar, cK, cOp, cIf, cAnd, cOr, cNot, cNotT, cNeg, cChain, cTup, cLst, cBi, cCall, cCallF, cCallP, cIsi,   aNil, aCons, afNil, afCons, afDef, afSlot, afLam, bVal, bTru, bAnd, bOr, bNot, R.bind, lift, isM, isNotM, isB, leM, ltM, geM, gtM, intM, subM, modM, divM, mulM, addM, ixM, truM, tyName, isiT, itemsOf, lenM, iaddM, isubM, min2M, max2M, eqM_int, neM_int, small_size, small_size2, optD, this]

def numB (g : Int) : D → Bool
  | .int i => decide (0 ≤ i) && decide (i ≤ g)
  | _ => false
abbrev ils (ns : List Int) : List D := ns.map D.int
theorem numbers_fit_eq (ns : List Int) (l m g : Int) (st : Sto) : M_numbers_fit [] [.tup (ils ns), .int l, .int m, .int g] st = .ok (.bl (inLen (ils ns) l m && (ils ns).all (numB g))) st := by
  have e := tuple_fits_eq (φ := lamM 1 0 [some (.int g)] m_numbers_fit_lam1) (f := numB g) (xs := ils ns) (l := l) (m := m) (st := st) fun _ x hx => by
    obtain ⟨i, _, rfl⟩ := List.mem_map.mp hx
    simp [runDef, plains, startM, outR, sRet, sSeq, sIf, sAsg, sNext, sExpr, sRaise, sRetN, sAug, sPar, thenS, tN, cVar, cK, cOp, cIf, cAnd, cOr, cNot, cNotT, cNeg, cChain, cTup, cLst, cBi, cCall, cCallF, cCallP, cIsi,   aNil, aCons, afNil, afCons, afDef, afSlot, afLam, bVal, bTru, bAnd, bOr, bNot, R.bind, lift, isM, isNotM, isB, leM, ltM, geM, gtM, intM, subM, modM, divM, mulM, addM, ixM, truM, tyName, isiT, itemsOf, lenM, iaddM, isubM, min2M, max2M, eqM_int, neM_int, small_size, small_size2, lamM, lamEn, m_numbers_fit_lam1, number_between_int, numB]
  simp [runDef, plains, startM, outR, sRet, sSeq, sIf, sAsg, sNext, sExpr, sRaise, sRetN, sAug, sPar, thenS, tN, cVar, cK, cOp, cIf, cAnd, cOr, cNot, cNotT, cNeg, cChain, cTup, cLst, cBi, cCall, cCallF, cCallP, cIsi,   aNil, aCons, afNil, afCons, afDef, afSlot, afLam, bVal, bTru, bAnd, bOr, bNot, R.bind, lift, isM, isNotM, isB, leM, ltM, geM, gtM, intM, subM, modM, divM, mulM, addM, ixM, truM, tyName, isiT, itemsOf, lenM, iaddM, isubM, min2M, max2M, eqM_int, neM_int, small_size, small_size2, M_numbers_fit, m_numbers_fit_b1, slotM, e]
theorem len_ils (ns : List Int) : (ils ns).length = ns.length := List.length_map _
theorem points_fit_eq (p : Int) (ns : List Int) (st : Sto) (hz : ns.length ≤ sizeLine) : M_points_fit [] [.int p, .tup (ils ns)] st = .ok (.bl (inLen (ils ns) 1 8 && (ils ns).all (numB p) && decide (ns.eraseDups.length = ns.length))) st := by
  have e := numbers_fit_eq ns 1 8 p st
  cases h : (inLen (ils ns) 1 8 && (ils ns).all (numB p))
  · rw [h] at e
    simp [runDef, plains, startM, outR, sRet, sSeq, sIf, sAsg, sNext, sExpr, sRaise, sRetN, sAug, sPar, thenS, tN, cVar, cK, cOp, cIf, cAnd, cOr, cNot, cNotT, cNeg, cChain, cTup, cLst, cBi, cCall, cCallF, cCallP, cIsi,   aNil, aCons, afNil, afCons, afDef, afSlot, afLam, bVal, bTru, bAnd, bOr, bNot, R.bind, lift, isM, isNotM, isB, leM, ltM, geM, gtM, intM, subM, modM, divM, mulM, addM, ixM, truM, tyName, isiT, itemsOf, lenM, iaddM, isubM, min2M, max2M, eqM_int, neM_int, small_size, small_size2, M_points_fit, m_points_fit_b1, e]
  · rw [h] at e
    have hl : ns.length ≤ 1000 := by
      rw [Bool.and_eq_true] at h
      have := h.1
      unfold inLen at this
      simp at this
      omega
    have hi : intsOf (ils ns) = some ns := intsOf_map ns
    simp [runDef, plains, startM, outR, sRet, sSeq, sIf, sAsg, sNext, sExpr, sRaise, sRetN, sAug, sPar, thenS, tN, cVar, cK, cOp, cIf, cAnd, cOr, cNot, cNotT, cNeg, cChain, cTup, cLst, cBi, cCall, cCallF, cCallP, cIsi,   aNil, aCons, afNil, afCons, afDef, afSlot, afLam, bVal, bTru, bAnd, bOr, bNot, R.bind, lift, isM, isNotM, isB, leM, ltM, geM, gtM, intM, subM, modM, divM, mulM, addM, ixM, truM, tyName, isiT, itemsOf, lenM, iaddM, isubM, min2M, max2M, eqM_int, neM_int, small_size, small_size2, M_points_fit, m_points_fit_b1, e, lenSetM, hl, hi]
    exact Int.ofNat_inj
/-- a prime, by its divisors -/
def PrimeI (p : Int) : Prop := 2 ≤ p ∧ p ≤ 65521 ∧ ∀ d : Int, 2 ≤ d → d * d ≤ p → p % d ≠ 0
theorem is_prime_loop {p : Int} (hp : PrimeI p) : ∀ (n : Nat) (d : Int) (st : Sto), 2 ≤ d → p < (d + n) * (d + n) → d ≤ 65521 → ∃ d', whileN m_is_prime_while1_t m_is_prime_while1_body (n + 1) [some (.int p), some (.int d)] st = .nx [some (.int p), some (.int d')] st
  | n, d, st, hd, hn, hz => by
    have hs : small64b d = true := by
      unfold small64b
      simp
      omega
    by_cases h : d * d ≤ p
    · have h3 := hp.2.2 d hd h
      cases n with
      | zero => simp at hn; omega
      | succ n =>
        have h5 : d * 2 ≤ d * d := Int.mul_le_mul_of_nonneg_left hd (by omega)
        have h6 := hp.2.1
        obtain ⟨d', e⟩ := is_prime_loop hp n (d + 1) st (by omega) (by
          have : d + 1 + (n : Int) = d + ((n + 1 : Nat) : Int) := by omega
          rw [this]
          exact hn) (by omega)
        refine ⟨d', ?_⟩
        unfold whileN
        have hd0 : 0 < d := by omega
        simp [runDef, plains, startM, outR, sRet, sSeq, sIf, sAsg, sNext, sExpr, sRaise, sRetN, sAug, sPar, thenS, tN, cVar, cK, cOp, cIf, cAnd, cOr, cNot, cNotT, cNeg, cChain, cTup, cLst, cBi, cCall, cCallF, cCallP, cIsi,   aNil, aCons, afNil, afCons, afDef, afSlot, afLam, bVal, bTru, bAnd, bOr, bNot, R.bind, lift, isM, isNotM, isB, leM, ltM, geM, gtM, intM, subM, modM, divM, mulM, addM, ixM, truM, tyName, isiT, itemsOf, lenM, iaddM, isubM, min2M, max2M, eqM_int, neM_int, small_size, small_size2, m_is_prime_while1_t, m_is_prime_while1_body, hs, h, hd0, h3]
        exact e
    · refine ⟨d, ?_⟩
      unfold whileN
      simp [runDef, plains, startM, outR, sRet, sSeq, sIf, sAsg, sNext, sExpr, sRaise, sRetN, sAug, sPar, thenS, tN, cVar, cK, cOp, cIf, cAnd, cOr, cNot, cNotT, cNeg, cChain, cTup, cLst, cBi, cCall, cCallF, cCallP, cIsi,   aNil, aCons, afNil, afCons, afDef, afSlot, afLam, bVal, bTru, bAnd, bOr, bNot, R.bind, lift, isM, isNotM, isB, leM, ltM, geM, gtM, intM, subM, modM, divM, mulM, addM, ixM, truM, tyName, isiT, itemsOf, lenM, iaddM, isubM, min2M, max2M, eqM_int, neM_int, small_size, small_size2, m_is_prime_while1_t, hs, h]
theorem is_prime_eq {p : Int} (hp : PrimeI p) (st : Sto) : M_is_prime [] [.int p] st = .ok (.bl true) st := by
  obtain ⟨d', e⟩ := is_prime_loop hp 65521 2 st (by omega) (by have := hp.2.1; omega) (by omega)
  have e2 := sWhile_of e (by simp)
  have h1 := hp.1
  have h2 := hp.2.1
  simp [runDef, plains, startM, outR, sRet, sSeq, sIf, sAsg, sNext, sExpr, sRaise, sRetN, sAug, sPar, thenS, tN, cVar, cK, cOp, cIf, cAnd, cOr, cNot, cNotT, cNeg, cChain, cTup, cLst, cBi, cCall, cCallF, cCallP, cIsi,   aNil, aCons, afNil, afCons, afDef, afSlot, afLam, bVal, bTru, bAnd, bOr, bNot, R.bind, lift, isM, isNotM, isB, leM, ltM, geM, gtM, intM, subM, modM, divM, mulM, addM, ixM, truM, tyName, isiT, itemsOf, lenM, iaddM, isubM, min2M, max2M, eqM_int, neM_int, small_size, small_size2, M_is_prime, m_is_prime_b1, m_is_prime_b2, m_is_prime_b3, m_is_prime_b4, number_between_int, h1, h2, e2]

@[simp] theorem atI_zero {α : Type} {x : α} {xs : List α} : atI (x :: xs) 0 = some x := by
  unfold L2.atI L2.ixN
  simp
theorem atI_nat {α : Type} {x : α} {xs : List α} {i : Nat} (h : xs[i]? = some x) : atI xs (i : Nat) = some x := by
  unfold L2.atI L2.ixN
  have hl := (List.getElem?_eq_some_iff.mp h).1
  have h1 : (0 : Int) ≤ (i : Nat) ∧ ((i : Nat) : Int) < xs.length := by omega
  simp [h1]
  exact h
@[simp] theorem atI_one {α : Type} {x y : α} {xs : List α} : atI (x :: y :: xs) 1 = some y := atI_nat (i := 1) rfl
@[simp] theorem atI_two {α : Type} {x y z : α} {xs : List α} : atI (x :: y :: z :: xs) 2 = some z := atI_nat (i := 2) rfl
def gD (p n : Int) (pts : List Int) : D := .tup [.int p, .int n, .tup (ils pts)]
def GoodG (p n : Int) (pts : List Int) : Prop := PrimeI p ∧ pts.length ≤ 8 ∧ 1 ≤ pts.length ∧ (∀ x ∈ pts, 0 ≤ x ∧ x ≤ p) ∧ pts.eraseDups.length = pts.length
theorem points_good {p n : Int} {pts : List Int} (h : GoodG p n pts) (st : Sto) : M_points_fit [] [.int p, .tup (ils pts)] st = .ok (.bl true) st := by
  obtain ⟨_, h1, h2, h3, h4⟩ := h
  rw [points_fit_eq p pts st (by rw [sizeLine_eq]; omega)]
  have e1 : inLen (ils pts) 1 8 = true := by
    unfold inLen
    simp
    omega
  have e2 : (ils pts).all (numB p) = true := by
    rw [List.all_eq_true]
    intro x hx
    obtain ⟨i, hi, rfl⟩ := List.mem_map.mp hx
    have := h3 i hi
    simp [numB, this]
  rw [e1, e2, h4]
  simp
theorem ground_fault_eq {p n : Int} {pts : List Int} (h : GoodG p n pts) (st : Sto) : M_ground_fault [] [gD p n pts] st = .ok (if 1 ≤ n ∧ n ≤ 12 then .non else .int 1) st := by
  have e1 := is_prime_eq h.1 st
  have e3 := points_good h st
  by_cases h1 : 1 ≤ n
  · by_cases h2 : n ≤ 12
    · simp [runDef, plains, startM, outR, sRet, sSeq, sIf, sAsg, sNext, sExpr, sRaise, sRetN, sAug, sPar, thenS, tN, cVar, cK, cOp, cIf, cAnd, cOr, cNot, cNotT, cNeg, cChain, cTup, cLst, cBi, cCall, cCallF, cCallP, cIsi,   aNil, aCons, afNil, afCons, afDef, afSlot, afLam, bVal, bTru, bAnd, bOr, bNot, R.bind, lift, isM, isNotM, isB, leM, ltM, geM, gtM, intM, subM, modM, divM, mulM, addM, ixM, truM, tyName, isiT, itemsOf, lenM, iaddM, isubM, min2M, max2M, eqM_int, neM_int, small_size, small_size2, M_ground_fault, m_ground_fault_b1, m_ground_fault_b2, m_ground_fault_b3, m_ground_fault_b4, m_ground_fault_b5, gD, e1, number_between_int, e3, h1, h2]
    · simp [runDef, plains, startM, outR, sRet, sSeq, sIf, sAsg, sNext, sExpr, sRaise, sRetN, sAug, sPar, thenS, tN, cVar, cK, cOp, cIf, cAnd, cOr, cNot, cNotT, cNeg, cChain, cTup, cLst, cBi, cCall, cCallF, cCallP, cIsi,   aNil, aCons, afNil, afCons, afDef, afSlot, afLam, bVal, bTru, bAnd, bOr, bNot, R.bind, lift, isM, isNotM, isB, leM, ltM, geM, gtM, intM, subM, modM, divM, mulM, addM, ixM, truM, tyName, isiT, itemsOf, lenM, iaddM, isubM, min2M, max2M, eqM_int, neM_int, small_size, small_size2, M_ground_fault, m_ground_fault_b1, m_ground_fault_b2, m_ground_fault_b3, m_ground_fault_b4, m_ground_fault_b5, gD, e1, number_between_int, e3, h1, h2]
  · simp [runDef, plains, startM, outR, sRet, sSeq, sIf, sAsg, sNext, sExpr, sRaise, sRetN, sAug, sPar, thenS, tN, cVar, cK, cOp, cIf, cAnd, cOr, cNot, cNotT, cNeg, cChain, cTup, cLst, cBi, cCall, cCallF, cCallP, cIsi,   aNil, aCons, afNil, afCons, afDef, afSlot, afLam, bVal, bTru, bAnd, bOr, bNot, R.bind, lift, isM, isNotM, isB, leM, ltM, geM, gtM, intM, subM, modM, divM, mulM, addM, ixM, truM, tyName, isiT, itemsOf, lenM, iaddM, isubM, min2M, max2M, eqM_int, neM_int, small_size, small_size2, M_ground_fault, m_ground_fault_b1, m_ground_fault_b2, m_ground_fault_b3, m_ground_fault_b4, m_ground_fault_b5, gD, e1, number_between_int, e3, h1]
theorem made_ground_eq {p n : Int} {pts : List Int} (h : GoodG p n pts) (st : Sto) : M_made_ground [] [gD p n pts] st = if 1 ≤ n ∧ n ≤ 12 then .ok (gD p n pts) st else .ex "BadGround" (.int 1) st := by
  by_cases h1 : 1 ≤ n ∧ n ≤ 12
  · simp [runDef, plains, startM, outR, sRet, sSeq, sIf, sAsg, sNext, sExpr, sRaise, sRetN, sAug, sPar, thenS, tN, cVar, cK, cOp, cIf, cAnd, cOr, cNot, cNotT, cNeg, cChain, cTup, cLst, cBi, cCall, cCallF, cCallP, cIsi,   aNil, aCons, afNil, afCons, afDef, afSlot, afLam, bVal, bTru, bAnd, bOr, bNot, R.bind, lift, isM, isNotM, isB, leM, ltM, geM, gtM, intM, subM, modM, divM, mulM, addM, ixM, truM, tyName, isiT, itemsOf, lenM, iaddM, isubM, min2M, max2M, eqM_int, neM_int, small_size, small_size2, M_made_ground, m_made_ground_b1, m_made_ground_b2, m_made_ground_b3, ground_fault_eq h, h1]
  · simp [runDef, plains, startM, outR, sRet, sSeq, sIf, sAsg, sNext, sExpr, sRaise, sRetN, sAug, sPar, thenS, tN, cVar, cK, cOp, cIf, cAnd, cOr, cNot, cNotT, cNeg, cChain, cTup, cLst, cBi, cCall, cCallF, cCallP, cIsi,   aNil, aCons, afNil, afCons, afDef, afSlot, afLam, bVal, bTru, bAnd, bOr, bNot, R.bind, lift, isM, isNotM, isB, leM, ltM, geM, gtM, intM, subM, modM, divM, mulM, addM, ixM, truM, tyName, isiT, itemsOf, lenM, iaddM, isubM, min2M, max2M, eqM_int, neM_int, small_size, small_size2, M_made_ground, m_made_ground_b1, m_made_ground_b2, m_made_ground_b3, ground_fault_eq h, h1]
theorem shelves_eq {p n : Int} {pts : List Int} (h : GoodG p n pts) (st : Sto) : M_shelves [] [gD p n pts] st = if 1 ≤ n ∧ n ≤ 12 then .ok (.int pts.length) st else .ex "BadGround" (.int 1) st := by
  by_cases h1 : 1 ≤ n ∧ n ≤ 12
  · have e := made_ground_eq h st
    rw [if_pos h1] at e
    simp [runDef, plains, startM, outR, sRet, sSeq, sIf, sAsg, sNext, sExpr, sRaise, sRetN, sAug, sPar, thenS, tN, cVar, cK, cOp, cIf, cAnd, cOr, cNot, cNotT, cNeg, cChain, cTup, cLst, cBi, cCall, cCallF, cCallP, cIsi,   aNil, aCons, afNil, afCons, afDef, afSlot, afLam, bVal, bTru, bAnd, bOr, bNot, R.bind, lift, isM, isNotM, isB, leM, ltM, geM, gtM, intM, subM, modM, divM, mulM, addM, ixM, truM, tyName, isiT, itemsOf, lenM, iaddM, isubM, min2M, max2M, eqM_int, neM_int, small_size, small_size2, M_shelves, m_shelves_b1, e, h1]
    simp [runDef, plains, startM, outR, sRet, sSeq, sIf, sAsg, sNext, sExpr, sRaise, sRetN, sAug, sPar, thenS, tN, cVar, cK, cOp, cIf, cAnd, cOr, cNot, cNotT, cNeg, cChain, cTup, cLst, cBi, cCall, cCallF, cCallP, cIsi,   aNil, aCons, afNil, afCons, afDef, afSlot, afLam, bVal, bTru, bAnd, bOr, bNot, R.bind, lift, isM, isNotM, isB, leM, ltM, geM, gtM, intM, subM, modM, divM, mulM, addM, ixM, truM, tyName, isiT, itemsOf, lenM, iaddM, isubM, min2M, max2M, eqM_int, neM_int, small_size, small_size2, gD]
  · have e := made_ground_eq h st
    rw [if_neg h1] at e
    simp [runDef, plains, startM, outR, sRet, sSeq, sIf, sAsg, sNext, sExpr, sRaise, sRetN, sAug, sPar, thenS, tN, cVar, cK, cOp, cIf, cAnd, cOr, cNot, cNotT, cNeg, cChain, cTup, cLst, cBi, cCall, cCallF, cCallP, cIsi,   aNil, aCons, afNil, afCons, afDef, afSlot, afLam, bVal, bTru, bAnd, bOr, bNot, R.bind, lift, isM, isNotM, isB, leM, ltM, geM, gtM, intM, subM, modM, divM, mulM, addM, ixM, truM, tyName, isiT, itemsOf, lenM, iaddM, isubM, min2M, max2M, eqM_int, neM_int, small_size, small_size2, M_shelves, m_shelves_b1, e, h1]
/-! tapes -/
def tapeD (t : List Int) : D := .tup (ils t)
def weavD (ts : List (List Int)) : D := .tup (ts.map tapeD)
theorem is_batch_number_eq (b : Int) (st : Sto) : M_is_batch_number [] [.int b] st = .ok (.bl (decide (0 ≤ b) && decide (b ≤ 63))) st := by
  simp [runDef, plains, startM, outR, sRet, sSeq, sIf, sAsg, sNext, sExpr, sRaise, sRetN, sAug, sPar, thenS, tN, cVar, cK, cOp, cIf, cAnd, cOr, cNot, cNotT, cNeg, cChain, cTup, cLst, cBi, cCall, cCallF, cCallP, cIsi,   aNil, aCons, afNil, afCons, afDef, afSlot, afLam, bVal, bTru, bAnd, bOr, bNot, R.bind, lift, isM, isNotM, isB, leM, ltM, geM, gtM, intM, subM, modM, divM, mulM, addM, ixM, truM, tyName, isiT, itemsOf, lenM, iaddM, isubM, min2M, max2M, eqM_int, neM_int, small_size, small_size2, M_is_batch_number, m_is_batch_number_b1, number_between_int]
theorem made_batch_number_eq (b : Int) (st : Sto) : M_made_batch_number [] [.int b] st = if 0 ≤ b ∧ b ≤ 63 then .ok (.int b) st else .ex "BadNumber" (.int b) st := by
  by_cases h1 : 0 ≤ b
  · by_cases h2 : b ≤ 63
    · simp [runDef, plains, startM, outR, sRet, sSeq, sIf, sAsg, sNext, sExpr, sRaise, sRetN, sAug, sPar, thenS, tN, cVar, cK, cOp, cIf, cAnd, cOr, cNot, cNotT, cNeg, cChain, cTup, cLst, cBi, cCall, cCallF, cCallP, cIsi,   aNil, aCons, afNil, afCons, afDef, afSlot, afLam, bVal, bTru, bAnd, bOr, bNot, R.bind, lift, isM, isNotM, isB, leM, ltM, geM, gtM, intM, subM, modM, divM, mulM, addM, ixM, truM, tyName, isiT, itemsOf, lenM, iaddM, isubM, min2M, max2M, eqM_int, neM_int, small_size, small_size2, M_made_batch_number, m_made_batch_number_b1, m_made_batch_number_b2, is_batch_number_eq, h1, h2]
    · simp [runDef, plains, startM, outR, sRet, sSeq, sIf, sAsg, sNext, sExpr, sRaise, sRetN, sAug, sPar, thenS, tN, cVar, cK, cOp, cIf, cAnd, cOr, cNot, cNotT, cNeg, cChain, cTup, cLst, cBi, cCall, cCallF, cCallP, cIsi,   aNil, aCons, afNil, afCons, afDef, afSlot, afLam, bVal, bTru, bAnd, bOr, bNot, R.bind, lift, isM, isNotM, isB, leM, ltM, geM, gtM, intM, subM, modM, divM, mulM, addM, ixM, truM, tyName, isiT, itemsOf, lenM, iaddM, isubM, min2M, max2M, eqM_int, neM_int, small_size, small_size2, M_made_batch_number, m_made_batch_number_b1, m_made_batch_number_b2, is_batch_number_eq, h1, h2]
  · simp [runDef, plains, startM, outR, sRet, sSeq, sIf, sAsg, sNext, sExpr, sRaise, sRetN, sAug, sPar, thenS, tN, cVar, cK, cOp, cIf, cAnd, cOr, cNot, cNotT, cNeg, cChain, cTup, cLst, cBi, cCall, cCallF, cCallP, cIsi,   aNil, aCons, afNil, afCons, afDef, afSlot, afLam, bVal, bTru, bAnd, bOr, bNot, R.bind, lift, isM, isNotM, isB, leM, ltM, geM, gtM, intM, subM, modM, divM, mulM, addM, ixM, truM, tyName, isiT, itemsOf, lenM, iaddM, isubM, min2M, max2M, eqM_int, neM_int, small_size, small_size2, M_made_batch_number, m_made_batch_number_b1, m_made_batch_number_b2, is_batch_number_eq, h1]
def tapeB : D → Bool
  | .tup xs => inLen xs 0 1024 && xs.all (numB 63)
  | _ => false
theorem is_tape_eq (t : List Int) (st : Sto) : M_is_tape [] [tapeD t] st = .ok (.bl (tapeB (tapeD t))) st := by
  have e := tuple_fits_eq (φ := M_is_batch_number []) (f := numB 63) (xs := ils t) (l := 0) (m := 1024) (st := st) fun _ x hx => by
    obtain ⟨i, _, rfl⟩ := List.mem_map.mp hx
    rw [is_batch_number_eq]
    rfl
  simp [runDef, plains, startM, outR, sRet, sSeq, sIf, sAsg, sNext, sExpr, sRaise, sRetN, sAug, sPar, thenS, tN, cVar, cK, cOp, cIf, cAnd, cOr, cNot, cNotT, cNeg, cChain, cTup, cLst, cBi, cCall, cCallF, cCallP, cIsi,   aNil, aCons, afNil, afCons, afDef, afSlot, afLam, bVal, bTru, bAnd, bOr, bNot, R.bind, lift, isM, isNotM, isB, leM, ltM, geM, gtM, intM, subM, modM, divM, mulM, addM, ixM, truM, tyName, isiT, itemsOf, lenM, iaddM, isubM, min2M, max2M, eqM_int, neM_int, small_size, small_size2, M_is_tape, m_is_tape_b1, tapeD, e, tapeB]
theorem weaving_fault_eq {p n : Int} {pts : List Int} (h : GoodG p n pts) (hn : 1 ≤ n ∧ n ≤ 12) (ts : List (List Int)) (st : Sto) :
    M_weaving_fault [] [gD p n pts, weavD ts] st = .ok (if ts.length = pts.length then optD (firstBad tapeB 0 (ts.map tapeD)) else .int (-1)) st := by
  have e := tuple_fault_eq (φ := M_is_tape []) (f := tapeB) (xs := ts.map tapeD) (l := pts.length) (m := pts.length) (st := st) fun _ x hx => by
    obtain ⟨i, _, rfl⟩ := List.mem_map.mp hx
    exact is_tape_eq i st
  have e2 := shelves_eq h st
  rw [if_pos hn] at e2
  have e3 : inLen (ts.map tapeD) pts.length pts.length = decide (ts.length = pts.length) := by
    unfold inLen
    by_cases z : ts.length = pts.length
    · simp [z]
    · simp [z]
      omega
  rw [e3] at e
  simp only [decide_eq_true_eq] at e
  simp [runDef, plains, startM, outR, sRet, sSeq, sIf, sAsg, sNext, sExpr, sRaise, sRetN, sAug, sPar, thenS, tN, cVar, cK, cOp, cIf, cAnd, cOr, cNot, cNotT, cNeg, cChain, cTup, cLst, cBi, cCall, cCallF, cCallP, cIsi,   aNil, aCons, afNil, afCons, afDef, afSlot, afLam, bVal, bTru, bAnd, bOr, bNot, R.bind, lift, isM, isNotM, isB, leM, ltM, geM, gtM, intM, subM, modM, divM, mulM, addM, ixM, truM, tyName, isiT, itemsOf, lenM, iaddM, isubM, min2M, max2M, eqM_int, neM_int, small_size, small_size2, M_weaving_fault, m_weaving_fault_b1, m_weaving_fault_b2, e2, weavD, e]
theorem made_weaving_eq {p n : Int} {pts : List Int} (h : GoodG p n pts) (hn : 1 ≤ n ∧ n ≤ 12) (ts : List (List Int)) (st : Sto) :
    M_made_weaving [] [gD p n pts, weavD ts] st = match (if ts.length = pts.length then optD (firstBad tapeB 0 (ts.map tapeD)) else .int (-1)) with
      | .non => .ok (weavD ts) st
      | d => .ex "BadWeaving" d st := by
  have e := weaving_fault_eq h hn ts st
  by_cases z : ts.length = pts.length
  · rw [if_pos z] at e ⊢
    cases hb : firstBad tapeB 0 (ts.map tapeD) with
    | none =>
      rw [hb] at e
      simp [runDef, plains, startM, outR, sRet, sSeq, sIf, sAsg, sNext, sExpr, sRaise, sRetN, sAug, sPar, thenS, tN, cVar, cK, cOp, cIf, cAnd, cOr, cNot, cNotT, cNeg, cChain, cTup, cLst, cBi, cCall, cCallF, cCallP, cIsi,   aNil, aCons, afNil, afCons, afDef, afSlot, afLam, bVal, bTru, bAnd, bOr, bNot, R.bind, lift, isM, isNotM, isB, leM, ltM, geM, gtM, intM, subM, modM, divM, mulM, addM, ixM, truM, tyName, isiT, itemsOf, lenM, iaddM, isubM, min2M, max2M, eqM_int, neM_int, small_size, small_size2, M_made_weaving, m_made_weaving_b1, m_made_weaving_b2, m_made_weaving_b3, e, optD]
    | some i =>
      rw [hb] at e
      simp [runDef, plains, startM, outR, sRet, sSeq, sIf, sAsg, sNext, sExpr, sRaise, sRetN, sAug, sPar, thenS, tN, cVar, cK, cOp, cIf, cAnd, cOr, cNot, cNotT, cNeg, cChain, cTup, cLst, cBi, cCall, cCallF, cCallP, cIsi,   aNil, aCons, afNil, afCons, afDef, afSlot, afLam, bVal, bTru, bAnd, bOr, bNot, R.bind, lift, isM, isNotM, isB, leM, ltM, geM, gtM, intM, subM, modM, divM, mulM, addM, ixM, truM, tyName, isiT, itemsOf, lenM, iaddM, isubM, min2M, max2M, eqM_int, neM_int, small_size, small_size2, M_made_weaving, m_made_weaving_b1, m_made_weaving_b2, m_made_weaving_b3, e, optD]
  · rw [if_neg z] at e ⊢
    simp [runDef, plains, startM, outR, sRet, sSeq, sIf, sAsg, sNext, sExpr, sRaise, sRetN, sAug, sPar, thenS, tN, cVar, cK, cOp, cIf, cAnd, cOr, cNot, cNotT, cNeg, cChain, cTup, cLst, cBi, cCall, cCallF, cCallP, cIsi,   aNil, aCons, afNil, afCons, afDef, afSlot, afLam, bVal, bTru, bAnd, bOr, bNot, R.bind, lift, isM, isNotM, isB, leM, ltM, geM, gtM, intM, subM, modM, divM, mulM, addM, ixM, truM, tyName, isiT, itemsOf, lenM, iaddM, isubM, min2M, max2M, eqM_int, neM_int, small_size, small_size2, M_made_weaving, m_made_weaving_b1, m_made_weaving_b2, m_made_weaving_b3, e]

/-! books -/
abbrev Fate := Option Int × Option Int
def fateD (f : Fate) : D := .tup [bd f.1, bd f.2]
def rowD (r : List Fate) : D := .tup (r.map fateD)
def bookD (b : List (List Fate)) : D := .tup (b.map rowD)
def bdOk : Option Int → Bool
  | none => true
  | some i => decide (0 ≤ i) && decide (i ≤ 64)
theorem is_bound_eq (a : Option Int) (st : Sto) : M_is_bound [] [bd a] st = .ok (.bl (bdOk a)) st := by
  cases a <;> simp [runDef, plains, startM, outR, sRet, sSeq, sIf, sAsg, sNext, sExpr, sRaise, sRetN, sAug, sPar, thenS, tN, cVar, cK, cOp, cIf, cAnd, cOr, cNot, cNotT, cNeg, cChain, cTup, cLst, cBi, cCall, cCallF, cCallP, cIsi,   aNil, aCons, afNil, afCons, afDef, afSlot, afLam, bVal, bTru, bAnd, bOr, bNot, R.bind, lift, isM, isNotM, isB, leM, ltM, geM, gtM, intM, subM, modM, divM, mulM, addM, ixM, truM, tyName, isiT, itemsOf, lenM, iaddM, isubM, min2M, max2M, eqM_int, neM_int, small_size, small_size2, M_is_bound, m_is_bound_b1, bd, number_between_int, bdOk]
theorem is_pair_eq (f : Fate) (st : Sto) : M_is_pair [] [fateD f] st = .ok (.bl true) st := by simp [runDef, plains, startM, outR, sRet, sSeq, sIf, sAsg, sNext, sExpr, sRaise, sRetN, sAug, sPar, thenS, tN, cVar, cK, cOp, cIf, cAnd, cOr, cNot, cNotT, cNeg, cChain, cTup, cLst, cBi, cCall, cCallF, cCallP, cIsi,   aNil, aCons, afNil, afCons, afDef, afSlot, afLam, bVal, bTru, bAnd, bOr, bNot, R.bind, lift, isM, isNotM, isB, leM, ltM, geM, gtM, intM, subM, modM, divM, mulM, addM, ixM, truM, tyName, isiT, itemsOf, lenM, iaddM, isubM, min2M, max2M, eqM_int, neM_int, small_size, small_size2, M_is_pair, m_is_pair_b1, fateD]
theorem is_fate_eq (f : Fate) (st : Sto) : M_is_fate [] [fateD f] st = .ok (.bl (bdOk f.1 && bdOk f.2)) st := by
  have e := is_pair_eq f st
  unfold fateD at e
  cases h : bdOk f.1 <;> simp [runDef, plains, startM, outR, sRet, sSeq, sIf, sAsg, sNext, sExpr, sRaise, sRetN, sAug, sPar, thenS, tN, cVar, cK, cOp, cIf, cAnd, cOr, cNot, cNotT, cNeg, cChain, cTup, cLst, cBi, cCall, cCallF, cCallP, cIsi,   aNil, aCons, afNil, afCons, afDef, afSlot, afLam, bVal, bTru, bAnd, bOr, bNot, R.bind, lift, isM, isNotM, isB, leM, ltM, geM, gtM, intM, subM, modM, divM, mulM, addM, ixM, truM, tyName, isiT, itemsOf, lenM, iaddM, isubM, min2M, max2M, eqM_int, neM_int, small_size, small_size2, M_is_fate, m_is_fate_b1, fateD, e, is_bound_eq, h]
def fateB : D → Bool
  | .tup [.non, .non] => true
  | .tup [.int i, .non] => decide (0 ≤ i) && decide (i ≤ 64)
  | .tup [.non, .int i] => decide (0 ≤ i) && decide (i ≤ 64)
  | .tup [.int i, .int j] => decide (0 ≤ i) && decide (i ≤ 64) && (decide (0 ≤ j) && decide (j ≤ 64))
  | _ => false
theorem fateB_eq (f : Fate) : fateB (fateD f) = (bdOk f.1 && bdOk f.2) := by
  obtain ⟨a, b⟩ := f
  cases a <;> cases b <;> simp [fateB, fateD, bd, bdOk]
def rowB (n : Int) : D → Bool
  | .tup xs => inLen xs n n && xs.all fateB
  | _ => false
theorem row_fits_eq (n : Int) (r : List Fate) (st : Sto) : M_row_fits [] [.int n, rowD r] st = .ok (.bl (rowB n (rowD r))) st := by
  have e := tuple_fits_eq (φ := M_is_fate []) (f := fateB) (xs := r.map fateD) (l := n) (m := n) (st := st) fun _ x hx => by
    obtain ⟨i, _, rfl⟩ := List.mem_map.mp hx
    rw [is_fate_eq, fateB_eq]
  simp [runDef, plains, startM, outR, sRet, sSeq, sIf, sAsg, sNext, sExpr, sRaise, sRetN, sAug, sPar, thenS, tN, cVar, cK, cOp, cIf, cAnd, cOr, cNot, cNotT, cNeg, cChain, cTup, cLst, cBi, cCall, cCallF, cCallP, cIsi,   aNil, aCons, afNil, afCons, afDef, afSlot, afLam, bVal, bTru, bAnd, bOr, bNot, R.bind, lift, isM, isNotM, isB, leM, ltM, geM, gtM, intM, subM, modM, divM, mulM, addM, ixM, truM, tyName, isiT, itemsOf, lenM, iaddM, isubM, min2M, max2M, eqM_int, neM_int, small_size, small_size2, M_row_fits, m_row_fits_b1, rowD, e, rowB]
theorem is_many_eq (n : Int) (st : Sto) : M_is_many [] [.int n] st = .ok (.bl (decide (1 ≤ n) && decide (n ≤ 8))) st := by
  simp [runDef, plains, startM, outR, sRet, sSeq, sIf, sAsg, sNext, sExpr, sRaise, sRetN, sAug, sPar, thenS, tN, cVar, cK, cOp, cIf, cAnd, cOr, cNot, cNotT, cNeg, cChain, cTup, cLst, cBi, cCall, cCallF, cCallP, cIsi,   aNil, aCons, afNil, afCons, afDef, afSlot, afLam, bVal, bTru, bAnd, bOr, bNot, R.bind, lift, isM, isNotM, isB, leM, ltM, geM, gtM, intM, subM, modM, divM, mulM, addM, ixM, truM, tyName, isiT, itemsOf, lenM, iaddM, isubM, min2M, max2M, eqM_int, neM_int, small_size, small_size2, M_is_many, m_is_many_b1, number_between_int]
theorem made_book_eq {n : Int} (h1 : 1 ≤ n) (h2 : n ≤ 8) (b : List (List Fate)) (hb : b ≠ []) (hl : b.length ≤ 24) (st : Sto) :
    M_made_book [] [.int n, bookD b] st = match firstBad (rowB n) 0 (b.map rowD) with
      | none => .ok (bookD b) st
      | some i => .ex "BadBook" (.int (i : Nat)) st := by
  have e := tuple_fault_eq (φ := lamM 1 0 [some (.int n)] m_made_book_lam1) (f := rowB n) (xs := b.map rowD) (l := 1) (m := 24) (st := st) fun _ x hx => by
    obtain ⟨i, _, rfl⟩ := List.mem_map.mp hx
    simp [runDef, plains, startM, outR, sRet, sSeq, sIf, sAsg, sNext, sExpr, sRaise, sRetN, sAug, sPar, thenS, tN, cVar, cK, cOp, cIf, cAnd, cOr, cNot, cNotT, cNeg, cChain, cTup, cLst, cBi, cCall, cCallF, cCallP, cIsi,   aNil, aCons, afNil, afCons, afDef, afSlot, afLam, bVal, bTru, bAnd, bOr, bNot, R.bind, lift, isM, isNotM, isB, leM, ltM, geM, gtM, intM, subM, modM, divM, mulM, addM, ixM, truM, tyName, isiT, itemsOf, lenM, iaddM, isubM, min2M, max2M, eqM_int, neM_int, small_size, small_size2, lamM, lamEn, m_made_book_lam1, row_fits_eq]
  have hb2 : 1 ≤ b.length := List.length_pos_iff.mpr hb
  have hi : inLen (b.map rowD) 1 24 = true := by
    unfold inLen
    simp
    omega
  rw [if_pos hi] at e
  have h3 : ¬ (24 : Int) < (b.length : Nat) := by omega
  have hb3 : (b.map rowD).isEmpty = false := by simp [hb]
  cases hf : firstBad (rowB n) 0 (b.map rowD) with
  | none =>
    rw [hf] at e
    simp [runDef, plains, startM, outR, sRet, sSeq, sIf, sAsg, sNext, sExpr, sRaise, sRetN, sAug, sPar, thenS, tN, cVar, cK, cOp, cIf, cAnd, cOr, cNot, cNotT, cNeg, cChain, cTup, cLst, cBi, cCall, cCallF, cCallP, cIsi,   aNil, aCons, afNil, afCons, afDef, afSlot, afLam, bVal, bTru, bAnd, bOr, bNot, R.bind, lift, isM, isNotM, isB, leM, ltM, geM, gtM, intM, subM, modM, divM, mulM, addM, ixM, truM, tyName, isiT, itemsOf, lenM, iaddM, isubM, min2M, max2M, eqM_int, neM_int, small_size, small_size2, M_made_book, m_made_book_b1, m_made_book_b2, m_made_book_b3, m_made_book_b4, m_made_book_b5, m_made_book_b6, is_many_eq, h1, h2, bookD, hb, h3, slotM, e, optD]
  | some i =>
    rw [hf] at e
    simp [runDef, plains, startM, outR, sRet, sSeq, sIf, sAsg, sNext, sExpr, sRaise, sRetN, sAug, sPar, thenS, tN, cVar, cK, cOp, cIf, cAnd, cOr, cNot, cNotT, cNeg, cChain, cTup, cLst, cBi, cCall, cCallF, cCallP, cIsi,   aNil, aCons, afNil, afCons, afDef, afSlot, afLam, bVal, bTru, bAnd, bOr, bNot, R.bind, lift, isM, isNotM, isB, leM, ltM, geM, gtM, intM, subM, modM, divM, mulM, addM, ixM, truM, tyName, isiT, itemsOf, lenM, iaddM, isubM, min2M, max2M, eqM_int, neM_int, small_size, small_size2, M_made_book, m_made_book_b1, m_made_book_b2, m_made_book_b3, m_made_book_b4, m_made_book_b5, m_made_book_b6, is_many_eq, h1, h2, bookD, hb, h3, slotM, e, optD]
theorem is_told_bl (b : Bool) (st : Sto) : M_is_told [] [.bl b] st = .ok (.bl true) st := by
  cases b <;> simp [runDef, plains, startM, outR, sRet, sSeq, sIf, sAsg, sNext, sExpr, sRaise, sRetN, sAug, sPar, thenS, tN, cVar, cK, cOp, cIf, cAnd, cOr, cNot, cNotT, cNeg, cChain, cTup, cLst, cBi, cCall, cCallF, cCallP, cIsi,   aNil, aCons, afNil, afCons, afDef, afSlot, afLam, bVal, bTru, bAnd, bOr, bNot, R.bind, lift, isM, isNotM, isB, leM, ltM, geM, gtM, intM, subM, modM, divM, mulM, addM, ixM, truM, tyName, isiT, itemsOf, lenM, iaddM, isubM, min2M, max2M, eqM_int, neM_int, small_size, small_size2, M_is_told, m_is_told_b1]
theorem is_told_int (i : Int) (st : Sto) : M_is_told [] [.int i] st = .ok (.bl false) st := by
  simp [runDef, plains, startM, outR, sRet, sSeq, sIf, sAsg, sNext, sExpr, sRaise, sRetN, sAug, sPar, thenS, tN, cVar, cK, cOp, cIf, cAnd, cOr, cNot, cNotT, cNeg, cChain, cTup, cLst, cBi, cCall, cCallF, cCallP, cIsi,   aNil, aCons, afNil, afCons, afDef, afSlot, afLam, bVal, bTru, bAnd, bOr, bNot, R.bind, lift, isM, isNotM, isB, leM, ltM, geM, gtM, intM, subM, modM, divM, mulM, addM, ixM, truM, tyName, isiT, itemsOf, lenM, iaddM, isubM, min2M, max2M, eqM_int, neM_int, small_size, small_size2, M_is_told, m_is_told_b1]
/-! bounds -/
def gone (told : Bool) (f g : Fate) : Option Int := if told = true then (if atMostO f.1 g.1 = true then f.1 else g.1) else f.1
def wrong (f g : Fate) : Option Int := if atMostO f.2 g.2 = true then g.2 else f.2
def headI (told : Bool) (f g : Fate) (n : Int) : Int := match gone told f g, wrong f g with
  | some a, some b => maxI 0 (n - (a + b))
  | _, _ => 0
theorem bounds_of_eq (told : Bool) (f g : Fate) (st : Sto) : M_bounds_of [] [fateD f, fateD g, .bl told] st = .ok (.tup [bd (gone told f g), bd (wrong f g)]) st := by
  cases told <;> simp [runDef, plains, startM, outR, sRet, sSeq, sIf, sAsg, sNext, sExpr, sRaise, sRetN, sAug, sPar, thenS, tN, cVar, cK, cOp, cIf, cAnd, cOr, cNot, cNotT, cNeg, cChain, cTup, cLst, cBi, cCall, cCallF, cCallP, cIsi,   aNil, aCons, afNil, afCons, afDef, afSlot, afLam, bVal, bTru, bAnd, bOr, bNot, R.bind, lift, isM, isNotM, isB, leM, ltM, geM, gtM, intM, subM, modM, divM, mulM, addM, ixM, truM, tyName, isiT, itemsOf, lenM, iaddM, isubM, min2M, max2M, eqM_int, neM_int, small_size, small_size2, M_bounds_of, m_bounds_of_b1, m_bounds_of_b2, fateD, lesser_eq, greater_eq, gone, wrong, sizeLine_eq]
theorem head_length_eq (a b : Option Int) (n : Int) (st : Sto) : M_head_length [] [.tup [bd a, bd b], .int n] st = .ok (.int (match a, b with
  | some a, some b => maxI 0 (n - (a + b))
  | _, _ => 0)) st := by
  have e : M_delay_of [] [.tup [bd a, bd b]] st = .ok (match a, b with
    | some a, some b => .int (a + b)
    | _, _ => .non) st := by cases a <;> cases b <;> simp [runDef, plains, startM, outR, sRet, sSeq, sIf, sAsg, sNext, sExpr, sRaise, sRetN, sAug, sPar, thenS, tN, cVar, cK, cOp, cIf, cAnd, cOr, cNot, cNotT, cNeg, cChain, cTup, cLst, cBi, cCall, cCallF, cCallP, cIsi,   aNil, aCons, afNil, afCons, afDef, afSlot, afLam, bVal, bTru, bAnd, bOr, bNot, R.bind, lift, isM, isNotM, isB, leM, ltM, geM, gtM, intM, subM, modM, divM, mulM, addM, ixM, truM, tyName, isiT, itemsOf, lenM, iaddM, isubM, min2M, max2M, eqM_int, neM_int, small_size, small_size2, M_delay_of, m_delay_of_b1, m_delay_of_b2, tT, tsCons, tsNil, bd]
  cases a <;> cases b <;> (simp only at e; simp [runDef, plains, startM, outR, sRet, sSeq, sIf, sAsg, sNext, sExpr, sRaise, sRetN, sAug, sPar, thenS, tN, cVar, cK, cOp, cIf, cAnd, cOr, cNot, cNotT, cNeg, cChain, cTup, cLst, cBi, cCall, cCallF, cCallP, cIsi,   aNil, aCons, afNil, afCons, afDef, afSlot, afLam, bVal, bTru, bAnd, bOr, bNot, R.bind, lift, isM, isNotM, isB, leM, ltM, geM, gtM, intM, subM, modM, divM, mulM, addM, ixM, truM, tyName, isiT, itemsOf, lenM, iaddM, isubM, min2M, max2M, eqM_int, neM_int, small_size, small_size2, M_head_length, m_head_length_b1, m_head_length_b2, e])

/-! counts -/
def pre (b : Int) (t : List Int) (m : Nat) : List Int := (List.range (m + 1)).map fun k => (((t.take k).count b : Nat) : Int)
def cnts (b : Int) (t : List Int) : List Int := pre b t t.length
theorem pre_succ {b : Int} {t : List Int} {m : Nat} : pre b t (m + 1) = pre b t m ++ [(((t.take (m + 1)).count b : Nat) : Int)] := by
  unfold pre
  rw [List.range_succ, List.map_append]
  rfl
theorem atI_last {α : Type} {xs : List α} {x : α} : atI (xs ++ [x]) (-1) = some x := by
  unfold L2.atI L2.ixN
  have h : (-1 + ((xs.length : Int) + 1)).toNat = xs.length := by omega
  have h2 : (1 : Int) ≤ xs.length + 1 := by omega
  simp [h, h2]
theorem pre_last {b : Int} {t : List Int} {m : Nat} : atI (ils (pre b t m)) (-1) = some (.int (((t.take m).count b : Nat) : Int)) := by
  cases m with
  | zero => simp [pre, L2.atI, L2.ixN, ils]
  | succ m =>
    rw [pre_succ, ils, List.map_append]
    exact atI_last
theorem count_next {b x : Int} {t : List Int} {m : Nat} (h : t[m]? = some x) : (((t.take (m + 1)).count b : Nat) : Int) = (((t.take m).count b : Nat) : Int) + if x = b then 1 else 0 := by
  rw [List.take_succ, h, List.count_append]
  by_cases z : x = b
  · subst z
    simp
  · simp [z]
theorem counts_in {b : Int} {t : List Int} {a0 : Option D} {a2 a3 : Option D} {s0 : Sto} (hz : t.length < sizeLine) (u : Option D) :
    ∃ u', loopF (okW []) (tN 5) m_counts_of_for2_body (ils t) [a0, some (.int b), a2, a3, some (.ref s0.length), u] (s0 ++ [.lst [.int 0]]) = .nx [a0, some (.int b), a2, a3, some (.ref s0.length), u'] (s0 ++ [.lst (ils (cnts b t))]) := by
  obtain ⟨ρ', s', e, ⟨u', rfl⟩, rfl⟩ := loopF_inv0 (ok := okW []) (tgt := tN 5) (body := m_counts_of_for2_body) (J := fun k ρ s => (∃ u, ρ = [a0, some (.int b), a2, a3, some (.ref s0.length), u]) ∧ s = s0 ++ [.lst (ils (pre b t k))])
    (fun _ _ _ _ => okW_nil) (ils t) [a0, some (.int b), a2, a3, some (.ref s0.length), u] (s0 ++ [.lst [.int 0]]) ⟨⟨u, rfl⟩, by simp [pre, ils]⟩ (fun i d ρ s hi ⟨⟨u, eρ⟩, es⟩ => by
      subst eρ es
      rw [ils, List.getElem?_map] at hi
      obtain ⟨x, hx, rfl⟩ := Option.map_eq_some_iff.mp hi
      have hl := (List.getElem?_eq_some_iff.mp hx).1
      have hp : (pre b t i).length < sizeLine := by simp [pre]; omega
      have e1 := pre_last (b := b) (t := t) (m := i)
      have e2 := count_next (b := b) (x := x) (t := t) (m := i) (by simpa using hx)
      refine ⟨_, _, [a0, some (.int b), a2, a3, some (.ref s0.length), some (.int x)], s0 ++ [.lst (ils (pre b t (i + 1)))], rfl, ?_, ⟨_, rfl⟩, rfl⟩
      have e3 : ils (pre b t (i + 1)) = ils (pre b t i) ++ [.int ((((t.take i).count b : Nat) : Int) + if x = b then 1 else 0)] := by
        rw [pre_succ, e2]
        simp
      rw [e3]
      by_cases z : x = b
      · simp [runDef, plains, startM, outR, sRet, sSeq, sIf, sAsg, sNext, sExpr, sRaise, sRetN, sAug, sPar, thenS, tN, cVar, cK, cOp, cIf, cAnd, cOr, cNot, cNotT, cNeg, cChain, cTup, cLst, cBi, cCall, cCallF, cCallP, cIsi,   aNil, aCons, afNil, afCons, afDef, afSlot, afLam, bVal, bTru, bAnd, bOr, bNot, R.bind, lift, isM, isNotM, isB, leM, ltM, geM, gtM, intM, subM, modM, divM, mulM, addM, ixM, truM, tyName, isiT, itemsOf, lenM, iaddM, isubM, min2M, max2M, eqM_int, neM_int, small_size, small_size2, m_counts_of_for2_body, cMethL, appendM, z, e1, hp]
      · simp [runDef, plains, startM, outR, sRet, sSeq, sIf, sAsg, sNext, sExpr, sRaise, sRetN, sAug, sPar, thenS, tN, cVar, cK, cOp, cIf, cAnd, cOr, cNot, cNotT, cNeg, cChain, cTup, cLst, cBi, cCall, cCallF, cCallP, cIsi,   aNil, aCons, afNil, afCons, afDef, afSlot, afLam, bVal, bTru, bAnd, bOr, bNot, R.bind, lift, isM, isNotM, isB, leM, ltM, geM, gtM, intM, subM, modM, divM, mulM, addM, ixM, truM, tyName, isiT, itemsOf, lenM, iaddM, isubM, min2M, max2M, eqM_int, neM_int, small_size, small_size2, m_counts_of_for2_body, cMethL, appendM, z, e1, hp])
  refine ⟨u', ?_⟩
  rw [e]
  simp [cnts]
/-- the counts of the tapes stand at n -/
def CountsAt (S : Sto) (n : Nat) (b : Int) (ts : List (List Int)) : Prop := ∃ refs : List Nat, S[n]? = some (.lst (refs.map D.ref)) ∧ refs.length = ts.length ∧ ∀ (i r : Nat) (t : List Int), refs[i]? = some r → ts[i]? = some t → S[r]? = some (.lst (ils (cnts b t)))
theorem CountsAt.app {S X : Sto} {n : Nat} {b : Int} {ts : List (List Int)} (h : CountsAt S n b ts) : CountsAt (S ++ X) n b ts := by
  obtain ⟨refs, h1, h2, h3⟩ := h
  have up : ∀ {k : Nat} {o : Ob}, S[k]? = some o → (S ++ X)[k]? = some o := fun e => by
    rw [List.getElem?_append_left (List.getElem?_eq_some_iff.mp e).1]
    exact e
  exact ⟨refs, up h1, h2, fun i r t a c => up (h3 i r t a c)⟩
theorem gcR_two {st : Sto} {n : Nat} {s : Sto} {o : Ob} (hs : st <+: s) (hn : st.length ≤ n) (ho : s[n]? = some o) : gcR st (.ok (.ref n) s) = .ok (.ref n) s ∨ (gcR st (.ok (.ref n) s) = .ok (.ref st.length) (st ++ [o]) ∧ D.unders st.length o.vals = true) := by
  obtain ⟨g, rfl⟩ := hs
  obtain ⟨k, rfl⟩ : ∃ k, n = st.length + k := ⟨n - st.length, by omega⟩
  by_cases hu : D.unders st.length o.vals = true
  · refine .inr ⟨gcR_at (k := k) ?_ hu, hu⟩
    rw [List.getElem?_append_right (by omega)] at ho
    simpa using ho
  · left
    unfold gcR gcD
    have h2 : ¬ st.length + k < st.length := by omega
    simp [D.under, ho, hu, h2]
theorem counts_of_eq {b : Int} {ts : List (List Int)} (hz : ∀ t ∈ ts, t.length < sizeLine) (hts : ts.length < sizeLine) (st : Sto) : ∃ n X, M_counts_of [] [weavD ts, .int b] st = .ok (.ref n) (st ++ X) ∧ CountsAt (st ++ X) n b ts := by
  let refs := fun k : Nat => (List.range k).map fun i => D.ref (st.length + 1 + i)
  let S := fun k : Nat => st ++ .lst (refs k) :: (ts.take k).map fun t => .lst (ils (cnts b t))
  obtain ⟨ρ', s', e, ⟨u3, u4, u5, rfl⟩, rfl⟩ := loopF_inv0 (ok := okW []) (tgt := tN 3) (body := m_counts_of_for1_body) (J := fun k ρ s => (∃ u3 u4 u5, ρ = [some (weavD ts), some (.int b), some (.ref st.length), u3, u4, u5]) ∧ s = S k)
    (fun _ _ _ _ => okW_nil) (ts.map tapeD) [some (weavD ts), some (.int b), some (.ref st.length), none, none, none] (st ++ [.lst []]) ⟨⟨_, _, _, rfl⟩, by simp [S, refs]⟩ (fun i d ρ s hi ⟨⟨u3, u4, u5, eρ⟩, es⟩ => by
      subst eρ es
      rw [List.getElem?_map] at hi
      obtain ⟨t, ht, rfl⟩ := Option.map_eq_some_iff.mp hi
      have hl := (List.getElem?_eq_some_iff.mp ht).1
      obtain ⟨u', e1⟩ := counts_in (b := b) (t := t) (a0 := some (weavD ts)) (a2 := some (.ref st.length)) (a3 := some (tapeD t)) (s0 := S i) (hz t (List.mem_of_getElem? ht)) u5
      have g1 : (S i)[st.length]? = some (.lst (refs i)) := by simp [S]
      have g0 : (S i).length = st.length + 1 + i := by simp [S]; omega
      have g2 : (S i ++ [Ob.lst (ils (cnts b t))])[st.length]? = some (.lst (refs i)) := by
        rw [List.getElem?_append_left (by omega)]
        exact g1
      have g3 : (refs i).length < sizeLine := by simp [refs]; omega
      have g4 : ((S i ++ [Ob.lst (ils (cnts b t))]).set st.length (Ob.lst (refs i ++ [D.ref (S i).length]))) = S (i + 1) := by
        rw [g0]
        simp only [S]
        rw [List.take_succ, ht]
        simp [refs, List.range_succ]
      refine ⟨_, _, [some (weavD ts), some (.int b), some (.ref st.length), some (tapeD t), some (.ref (S i).length), u'], S (i + 1), rfl, ?_, ⟨_, _, _, rfl⟩, rfl⟩
      rw [← g4]
      have e0 : wSeq (cVar 3) [some (weavD ts), some (.int b), some (.ref st.length), some (tapeD t), some (.ref (S i).length), u5] (S i ++ [Ob.lst [D.int 0]]) = .ok ⟨ils t, []⟩ (S i ++ [Ob.lst [D.int 0]]) := rfl
      simp [runDef, plains, startM, outR, sRet, sSeq, sIf, sAsg, sNext, sExpr, sRaise, sRetN, sAug, sPar, thenS, tN, cVar, cK, cOp, cIf, cAnd, cOr, cNot, cNotT, cNeg, cChain, cTup, cLst, cBi, cCall, cCallF, cCallP, cIsi,   aNil, aCons, afNil, afCons, afDef, afSlot, afLam, bVal, bTru, bAnd, bOr, bNot, R.bind, lift, isM, isNotM, isB, leM, ltM, geM, gtM, intM, subM, modM, divM, mulM, addM, ixM, truM, tyName, isiT, itemsOf, lenM, iaddM, isubM, min2M, max2M, eqM_int, neM_int, small_size, small_size2, m_counts_of_for1_body, sFor, m_counts_of_for2_it, e0, e1, cMethL, appendM, g2, g3])
  rw [List.length_map] at e
  have hS : st <+: S ts.length := ⟨_, rfl⟩
  have g1 : (S ts.length)[st.length]? = some (.lst (refs ts.length)) := by simp [S]
  have run : M_counts_of [] [weavD ts, .int b] st = gcR st (.ok (.ref st.length) (S ts.length)) := by
    have e0 : m_counts_of_for1_it [some (weavD ts), some (.int b), some (.ref st.length), none, none, none] (st ++ [Ob.lst []]) = .ok ⟨ts.map tapeD, []⟩ (st ++ [Ob.lst []]) := rfl
    simp [runDef, plains, startM, outR, sRet, sSeq, sIf, sAsg, sNext, sExpr, sRaise, sRetN, sAug, sPar, thenS, tN, cVar, cK, cOp, cIf, cAnd, cOr, cNot, cNotT, cNeg, cChain, cTup, cLst, cBi, cCall, cCallF, cCallP, cIsi,   aNil, aCons, afNil, afCons, afDef, afSlot, afLam, bVal, bTru, bAnd, bOr, bNot, R.bind, lift, isM, isNotM, isB, leM, ltM, geM, gtM, intM, subM, modM, divM, mulM, addM, ixM, truM, tyName, isiT, itemsOf, lenM, iaddM, isubM, min2M, max2M, eqM_int, neM_int, small_size, small_size2, M_counts_of, m_counts_of_b1, m_counts_of_b2, m_counts_of_b3, sFor, e0, e]
  have key : ∀ s, s = S ts.length → CountsAt s st.length b ts := fun s hs => by
    subst hs
    refine ⟨(List.range ts.length).map fun i => st.length + 1 + i, by rw [g1]; simp [refs], by simp, fun i r t h1 h2 => ?_⟩
    have hl := (List.getElem?_eq_some_iff.mp h2).1
    simp [hl] at h1
    subst h1
    simp only [S]
    rw [List.getElem?_append_right (by omega), show st.length + 1 + i - st.length = i + 1 by omega]
    simp [h2]
  rcases gcR_two hS (Nat.le_refl _) g1 with h | ⟨h, hu⟩
  · rw [run, h]
    exact ⟨_, _, rfl, key _ rfl⟩
  · rw [run, h]
    refine ⟨_, _, rfl, ?_⟩
    have e0 : ts = [] := by
      cases ts with
      | nil => rfl
      | cons t r =>
        simp [refs, List.range_succ_eq_map, Ob.vals, D.unders, D.under] at hu
        omega
    subst e0
    exact key _ (by simp [S])

theorem ils_flat (ns : List Int) : D.flats (ils ns) = true := by
  induction ns with
  | nil => rfl
  | cons n r ih => simp [ils, D.flats, D.flat] at ih ⊢; exact ih
theorem tup_lc {mi : MI} {own : List Nat} {tgt : T} {mt : B} {me : C} {ρ : En} {st : Sto} {xs : List D} {j : Sto} (e : cLc mi own tgt mt me ρ st = .ok (.ref st.length) (st ++ .lst xs :: j)) :
    cBi tupleM (aCons (cLc mi own tgt mt me) aNil) ρ st = .ok (.tup xs) (st ++ .lst xs :: j) := by
  simp [runDef, plains, startM, outR, sRet, sSeq, sIf, sAsg, sNext, sExpr, sRaise, sRetN, sAug, sPar, thenS, tN, cVar, cK, cOp, cIf, cAnd, cOr, cNot, cNotT, cNeg, cChain, cTup, cLst, cBi, cCall, cCallF, cCallP, cIsi,   aNil, aCons, afNil, afCons, afDef, afSlot, afLam, bVal, bTru, bAnd, bOr, bNot, R.bind, lift, isM, isNotM, isB, leM, ltM, geM, gtM, intM, subM, modM, divM, mulM, addM, ixM, truM, tyName, isiT, itemsOf, lenM, iaddM, isubM, min2M, max2M, eqM_int, neM_int, small_size, small_size2, e, tupleM]
theorem wt_lc {mi : MI} {own : List Nat} {tgt : T} {mt : B} {me : C} {ρ : En} {st : Sto} {xs : List D} {j : Sto} (e : cLc mi own tgt mt me ρ st = .ok (.ref st.length) (st ++ .lst xs :: j)) :
    cBi tupleWM (aCons (cLc mi own tgt mt me) aNil) ρ st = .ok (.wt xs) (st ++ .lst xs :: j) := by
  simp [runDef, plains, startM, outR, sRet, sSeq, sIf, sAsg, sNext, sExpr, sRaise, sRetN, sAug, sPar, thenS, tN, cVar, cK, cOp, cIf, cAnd, cOr, cNot, cNotT, cNeg, cChain, cTup, cLst, cBi, cCall, cCallF, cCallP, cIsi,   aNil, aCons, afNil, afCons, afDef, afSlot, afLam, bVal, bTru, bAnd, bOr, bNot, R.bind, lift, isM, isNotM, isB, leM, ltM, geM, gtM, intM, subM, modM, divM, mulM, addM, ixM, truM, tyName, isiT, itemsOf, lenM, iaddM, isubM, min2M, max2M, eqM_int, neM_int, small_size, small_size2, e, tupleWM]
theorem sum_lc {mi : MI} {own : List Nat} {tgt : T} {mt : B} {me : C} {ρ : En} {st : Sto} {ns : List Int} {j : Sto} (e : cLc mi own tgt mt me ρ st = .ok (.ref st.length) (st ++ .lst (ils ns) :: j)) :
    cBi sumM (aCons (cLc mi own tgt mt me) aNil) ρ st = .ok (.int ns.sum) (st ++ .lst (ils ns) :: j) := by
  have h : intsOf (ils ns) = some ns := intsOf_map ns
  simp [runDef, plains, startM, outR, sRet, sSeq, sIf, sAsg, sNext, sExpr, sRaise, sRetN, sAug, sPar, thenS, tN, cVar, cK, cOp, cIf, cAnd, cOr, cNot, cNotT, cNeg, cChain, cTup, cLst, cBi, cCall, cCallF, cCallP, cIsi,   aNil, aCons, afNil, afCons, afDef, afSlot, afLam, bVal, bTru, bAnd, bOr, bNot, R.bind, lift, isM, isNotM, isB, leM, ltM, geM, gtM, intM, subM, modM, divM, mulM, addM, ixM, truM, tyName, isiT, itemsOf, lenM, iaddM, isubM, min2M, max2M, eqM_int, neM_int, small_size, small_size2, e, sumM, lstInts, h]
/-! heads -/
def z3 : List Fate → List Fate → List (List Int) → List (Fate × Fate × List Int)
  | f :: fs, g :: gs, t :: ts => (f, g, t) :: z3 fs gs ts
  | _, _, _ => []
theorem z3_len_le : ∀ (a b : List Fate) (c : List (List Int)), (z3 a b c).length ≤ c.length
  | [], _, _ => by simp [z3]
  | _ :: _, [], _ => by simp [z3]
  | _ :: _, _ :: _, [] => by simp [z3]
  | _ :: a, _ :: b, _ :: c => by
    have := z3_len_le a b c
    simp [z3]
    omega
theorem zip3L_eq : ∀ (a b : List Fate) (c : List (List Int)), zip3L (a.map fateD) (b.map fateD) (c.map tapeD) = (z3 a b c).map fun x => .wt [fateD x.1, fateD x.2.1, tapeD x.2.2]
  | [], _, _ => by simp [z3, zip3L]
  | _ :: _, [], _ => by simp [z3, zip3L]
  | _ :: _, _ :: _, [] => by simp [z3, zip3L]
  | _ :: a, _ :: b, _ :: c => by
    have := zip3L_eq a b c
    simp [z3, zip3L, this]
def headsL (told : Bool) (one two : List Fate) (ts : List (List Int)) : List Int := (z3 one two ts).map fun x => headI told x.1 x.2.1 x.2.2.length
theorem heads_of_eq (told : Bool) (one two : List Fate) (ts : List (List Int)) (hz : ts.length ≤ 1000) (st : Sto) : M_heads_of [] [rowD one, rowD two, .bl told, weavD ts] st = .ok (.wt (ils (headsL told one two ts))) st := by
  have hl := z3_len_le one two ts
  obtain ⟨j, e⟩ := cLc_map (mi := m_heads_of_lc1_it) (own := [4, 5, 6]) (tgt := tT 3 (tsCons (tN 4) (tsCons (tN 5) (tsCons (tN 6) tsNil)))) (mt := bYes) (me := m_heads_of_lc1_elt) (ρ := [some (rowD one), some (rowD two), some (.bl told), some (weavD ts), none, none, none]) (st := st)
    (as := z3 one two ts) (it := fun x => .wt [fateD x.1, fateD x.2.1, tapeD x.2.2]) (g := fun x => .int (headI told x.1 x.2.1 x.2.2.length)) (lk := [])
    (by rw [← zip3L_eq]; simp [runDef, plains, startM, outR, sRet, sSeq, sIf, sAsg, sNext, sExpr, sRaise, sRetN, sAug, sPar, thenS, tN, cVar, cK, cOp, cIf, cAnd, cOr, cNot, cNotT, cNeg, cChain, cTup, cLst, cBi, cCall, cCallF, cCallP, cIsi,   aNil, aCons, afNil, afCons, afDef, afSlot, afLam, bVal, bTru, bAnd, bOr, bNot, R.bind, lift, isM, isNotM, isB, leM, ltM, geM, gtM, intM, subM, modM, divM, mulM, addM, ixM, truM, tyName, isiT, itemsOf, lenM, iaddM, isubM, min2M, max2M, eqM_int, neM_int, small_size, small_size2, m_heads_of_lc1_it, wArg, zip3M, seqW, rowD, weavD]) okW_nil (small_size (by omega)) (fun x hx acc j => by
      refine ⟨_, rfl, rfl, j, ?_⟩
      simp [runDef, plains, startM, outR, sRet, sSeq, sIf, sAsg, sNext, sExpr, sRaise, sRetN, sAug, sPar, thenS, tN, cVar, cK, cOp, cIf, cAnd, cOr, cNot, cNotT, cNeg, cChain, cTup, cLst, cBi, cCall, cCallF, cCallP, cIsi,   aNil, aCons, afNil, afCons, afDef, afSlot, afLam, bVal, bTru, bAnd, bOr, bNot, R.bind, lift, isM, isNotM, isB, leM, ltM, geM, gtM, intM, subM, modM, divM, mulM, addM, ixM, truM, tyName, isiT, itemsOf, lenM, iaddM, isubM, min2M, max2M, eqM_int, neM_int, small_size, small_size2, m_heads_of_lc1_elt, wipeM, bounds_of_eq, head_length_eq, tapeD, headI])
  have e2 := wt_lc e
  have h3 : (z3 one two ts).map (fun x => D.int (headI told x.1 x.2.1 x.2.2.length)) = ils (headsL told one two ts) := by simp [headsL, ils]
  rw [h3] at e2
  exact run_ret e2 (by unfold D.flat; exact ils_flat _)
/-! sums -/
def total (b : Int) (heads : List Int) (ts : List (List Int)) : Int := ((heads.zip ts).map fun x => (((x.2.take x.1.toNat).count b : Nat) : Int)).sum
theorem zipL_eq : ∀ (refs : List Nat) (heads : List Int) (ts : List (List Int)), heads.length = ts.length → zipL (refs.map D.ref) (ils heads) = (refs.zip (heads.zip ts)).map fun x => .wt [.ref x.1, .int x.2.1]
  | [], _, _, _ => by simp [zipL]
  | _ :: _, [], [], _ => by simp [zipL, ils]
  | _ :: _, [], _ :: _, h => by simp at h
  | _ :: _, _ :: _, [], h => by simp at h
  | _ :: r, _ :: hs, _ :: ts, h => by
    have ih := zipL_eq r hs ts (by simpa using h)
    simp [zipL, ils] at ih ⊢
    exact ih
theorem map_zip_snd {α β γ : Type} (f : β → γ) : ∀ (a : List α) (b : List β), b.length ≤ a.length → (a.zip b).map (fun x => f x.2) = b.map f
  | _, [], _ => by simp
  | [], _ :: _, h => by simp at h
  | _ :: a, _ :: b, h => by
    have := map_zip_snd f a b (by simpa using h)
    simp [this]
theorem cnts_at {b : Int} {t : List Int} {h : Int} (h0 : 0 ≤ h) (h1 : h ≤ t.length) : atI (ils (cnts b t)) h = some (.int (((t.take h.toNat).count b : Nat) : Int)) := by
  obtain ⟨k, rfl⟩ := Int.eq_ofNat_of_zero_le h0
  refine atI_nat ?_
  have hk : k < t.length + 1 := by omega
  simp [ils, cnts, pre, hk]
theorem many_in_eq {b : Int} {heads : List Int} {ts : List (List Int)} {S : Sto} {n : Nat} (hC : CountsAt S n b ts) (hl : heads.length = ts.length) (hz : ts.length ≤ 1000) (hh : ∀ (i : Nat) (h : Int) (t : List Int), heads[i]? = some h → ts[i]? = some t → 0 ≤ h ∧ h ≤ t.length) :
    M_many_in [] [.wt (ils heads), .ref n] S = .ok (.int (total b heads ts)) S := by
  obtain ⟨refs, h1, h2, h3⟩ := hC
  have hlz : (refs.zip (heads.zip ts)).length ≤ 1000 := by simp; omega
  obtain ⟨j, e⟩ := cLc_map (mi := m_many_in_lc1_it) (own := [2, 3]) (tgt := tT 2 (tsCons (tN 2) (tsCons (tN 3) tsNil))) (mt := bYes) (me := m_many_in_lc1_elt) (ρ := [some (.wt (ils heads)), some (.ref n), none, none]) (st := S)
    (as := refs.zip (heads.zip ts)) (it := fun x => .wt [.ref x.1, .int x.2.1]) (g := fun x => .int ((((x.2.2.take x.2.1.toNat).count b : Nat) : Int))) (lk := [(n, refs.map D.ref)])
    (by rw [← zipL_eq refs heads ts hl]; simp [runDef, plains, startM, outR, sRet, sSeq, sIf, sAsg, sNext, sExpr, sRaise, sRetN, sAug, sPar, thenS, tN, cVar, cK, cOp, cIf, cAnd, cOr, cNot, cNotT, cNeg, cChain, cTup, cLst, cBi, cCall, cCallF, cCallP, cIsi,   aNil, aCons, afNil, afCons, afDef, afSlot, afLam, bVal, bTru, bAnd, bOr, bNot, R.bind, lift, isM, isNotM, isB, leM, ltM, geM, gtM, intM, subM, modM, divM, mulM, addM, ixM, truM, tyName, isiT, itemsOf, lenM, iaddM, isubM, min2M, max2M, eqM_int, neM_int, small_size, small_size2, m_many_in_lc1_it, wArg, zipKM, seqW, h1]) (okW_one.mpr h1) (small_size hlz) (fun x hx acc j => by
      obtain ⟨i, hi⟩ := List.mem_iff_getElem?.mp hx
      obtain ⟨r, h, t⟩ := x
      rw [List.getElem?_zip_eq_some] at hi
      obtain ⟨i1, i2⟩ := hi
      rw [List.getElem?_zip_eq_some] at i2
      obtain ⟨i2, i3⟩ := i2
      have hb := hh i h t i2 i3
      have hr := h3 i r t i1 i3
      have hr2 : (S ++ Ob.lst acc :: j)[r]? = some (.lst (ils (cnts b t))) := by
        rw [List.getElem?_append_left (List.getElem?_eq_some_iff.mp hr).1]
        exact hr
      refine ⟨_, rfl, rfl, j, ?_⟩
      simp [runDef, plains, startM, outR, sRet, sSeq, sIf, sAsg, sNext, sExpr, sRaise, sRetN, sAug, sPar, thenS, tN, cVar, cK, cOp, cIf, cAnd, cOr, cNot, cNotT, cNeg, cChain, cTup, cLst, cBi, cCall, cCallF, cCallP, cIsi,   aNil, aCons, afNil, afCons, afDef, afSlot, afLam, bVal, bTru, bAnd, bOr, bNot, R.bind, lift, isM, isNotM, isB, leM, ltM, geM, gtM, intM, subM, modM, divM, mulM, addM, ixM, truM, tyName, isiT, itemsOf, lenM, iaddM, isubM, min2M, max2M, eqM_int, neM_int, small_size, small_size2, m_many_in_lc1_elt, wipeM, hr2, cnts_at hb.1 hb.2])
  have e2 : (refs.zip (heads.zip ts)).map (fun x => D.int ((((x.2.2.take x.2.1.toNat).count b : Nat) : Int))) = ils ((heads.zip ts).map fun x => (((x.2.take x.1.toNat).count b : Nat) : Int)) := by
    have := map_zip_snd (fun x : Int × List Int => D.int (((x.2.take x.1.toNat).count b : Nat) : Int)) refs (heads.zip ts) (by simp; omega)
    simp [ils]
    exact this
  rw [e2] at e
  exact run_ret (sum_lc e) rfl

def GoodB (many : Nat) (book : List (List Fate)) : Prop := book ≠ [] ∧ book.length ≤ 24 ∧ ∀ r ∈ book, r.length = many ∧ ∀ f ∈ r, bdOk f.1 = true ∧ bdOk f.2 = true
def GoodW (many : Nat) (ts : List (List Int)) : Prop := ts.length = many ∧ ∀ t ∈ ts, t.length ≤ 1024 ∧ ∀ x ∈ t, 0 ≤ x ∧ x ≤ 63
theorem z3_len : ∀ {a b : List Fate} {c : List (List Int)}, a.length = c.length → b.length = c.length → (z3 a b c).length = c.length
  | [], [], [], _, _ => rfl
  | _ :: a, _ :: b, _ :: c, h1, h2 => by
    have := z3_len (a := a) (b := b) (c := c) (by simpa using h1) (by simpa using h2)
    simp [z3, this]
  | [], _ :: _, _, h1, h2 => by simp at h1 h2; omega
  | _ :: _, [], _, h1, h2 => by simp at h1 h2; omega
  | [], [], _ :: _, h1, h2 => by simp at h1
  | _ :: _, _ :: _, [], h1, h2 => by simp at h1
theorem z3_get : ∀ {a b : List Fate} {c : List (List Int)} {i : Nat} {x : Fate × Fate × List Int}, (z3 a b c)[i]? = some x → a[i]? = some x.1 ∧ b[i]? = some x.2.1 ∧ c[i]? = some x.2.2
  | [], _, _, _, _, h => by simp [z3] at h
  | _ :: _, [], _, _, _, h => by simp [z3] at h
  | _ :: _, _ :: _, [], _, _, h => by simp [z3] at h
  | x :: a, y :: b, z :: c, 0, w, h => by
    simp [z3] at h
    subst h
    simp
  | x :: a, y :: b, z :: c, i + 1, w, h => by
    simp only [z3, List.getElem?_cons_succ] at h ⊢
    exact z3_get h
theorem headI_le {told : Bool} {f g : Fate} {n : Nat} (hf : bdOk f.1 = true ∧ bdOk f.2 = true) (hg : bdOk g.1 = true ∧ bdOk g.2 = true) : 0 ≤ headI told f g n ∧ headI told f g n ≤ n := by
  obtain ⟨f1, f2⟩ := f
  obtain ⟨g1, g2⟩ := g
  have key : ∀ a b : Int, 0 ≤ a → 0 ≤ b → 0 ≤ maxI 0 (n - (a + b)) ∧ maxI 0 (n - (a + b)) ≤ n := fun a b ha hb => by
    unfold maxI
    split <;> omega
  have k1 : ∀ x y : Option Int, bdOk x = true → bdOk y = true → ∀ z, (if atMostO x y = true then x else y) = some z → 0 ≤ z := fun x y hx hy z e => by
    cases x <;> cases y <;> simp [atMostO, bdOk] at e hx hy <;> (try split at e) <;> (try cases e) <;> omega
  have k2 : ∀ x y : Option Int, bdOk x = true → bdOk y = true → ∀ z, (if atMostO x y = true then y else x) = some z → 0 ≤ z := fun x y hx hy z e => by
    cases x <;> cases y <;> simp [atMostO, bdOk] at e hx hy <;> (try split at e) <;> (try cases e) <;> omega
  have k3 : ∀ z, gone told (f1, f2) (g1, g2) = some z → 0 ≤ z := fun z e => by
    unfold gone at e
    split at e
    · exact k1 _ _ hf.1 hg.1 z e
    · simp only at e
      subst e
      have := hf.1
      simp [bdOk] at this
      omega
  unfold headI
  cases e1 : gone told (f1, f2) (g1, g2) with
  | none => simp
  | some a =>
    cases e2 : wrong (f1, f2) (g1, g2) with
    | none => simp
    | some c => exact key a c (k3 a e1) (k2 _ _ hf.2 hg.2 c e2)
def entry (told : Bool) (b : Int) (ts : List (List Int)) (one two : List Fate) : Int := total b (headsL told one two ts) ts
def tableD (told : Bool) (b : Int) (ts : List (List Int)) (book : List (List Fate)) : D := .tup (book.map fun one => .tup (book.map fun two => .int (entry told b ts one two)))
theorem heads_ok {told : Bool} {one two : List Fate} {ts : List (List Int)} (h1 : one.length = ts.length) (h2 : two.length = ts.length) (b1 : ∀ f ∈ one, bdOk f.1 = true ∧ bdOk f.2 = true) (b2 : ∀ f ∈ two, bdOk f.1 = true ∧ bdOk f.2 = true) :
    (headsL told one two ts).length = ts.length ∧ ∀ (i : Nat) (h : Int) (t : List Int), (headsL told one two ts)[i]? = some h → ts[i]? = some t → 0 ≤ h ∧ h ≤ t.length := by
  refine ⟨by rw [headsL, List.length_map, z3_len h1 h2], fun i h t e1 e2 => ?_⟩
  rw [headsL, List.getElem?_map] at e1
  obtain ⟨x, hx, rfl⟩ := Option.map_eq_some_iff.mp e1
  obtain ⟨g1, g2, g3⟩ := z3_get hx
  rw [e2] at g3
  cases g3
  exact headI_le (b1 _ (List.mem_of_getElem? g1)) (b2 _ (List.mem_of_getElem? g2))
theorem table_flat (told : Bool) (b : Int) (ts : List (List Int)) (book : List (List Fate)) : (tableD told b ts book).flat = true := by
  unfold tableD D.flat
  have key : ∀ (l : List (List Fate)) (one : List Fate), D.flats (l.map fun two => D.int (entry told b ts one two)) = true := fun l one => by
    induction l with
    | nil => rfl
    | cons x r ih => simp [D.flats, D.flat, ih]
  have : ∀ l : List (List Fate), D.flats (l.map fun one => .tup (book.map fun two => .int (entry told b ts one two))) = true := fun l => by
    induction l with
    | nil => rfl
    | cons x r ih => simp [D.flats, D.flat, ih, key]
  exact this book
theorem sums_eq {G : D} {many : Nat} {book : List (List Fate)} {told : Bool} {ts : List (List Int)} {b : Int} {st : Sto} (hB : GoodB many book) (hW : GoodW many ts) (hm : many ≤ 8)
    (hc : M_check_written [] [G, bookD book, .bl told, weavD ts, .int b] st = .ok .non st) : M_sums [] [G, bookD book, .bl told, weavD ts, .int b] st = .ok (tableD told b ts book) st := by
  obtain ⟨w1, w2⟩ := hW
  obtain ⟨b1, b2, b3⟩ := hB
  obtain ⟨n, X, e1, hC⟩ := counts_of_eq (b := b) (ts := ts) (fun t ht => by have := (w2 t ht).1; rw [sizeLine_eq]; omega) (small_size2 (by omega)) st
  obtain ⟨j, e⟩ := cLc_map (mi := m_sums_lc2_it) (own := [6]) (tgt := tN 6) (mt := bYes) (me := m_sums_lc2_elt) (ρ := [some G, some (bookD book), some (.bl told), some (weavD ts), some (.int b), some (.ref n), none, none]) (st := st ++ X)
    (as := book) (it := rowD) (g := fun one => .tup (book.map fun two => .int (entry told b ts one two))) (lk := []) rfl okW_nil (small_size (by omega)) (fun one h1 acc j => by
      refine ⟨_, rfl, rfl, ?_⟩
      obtain ⟨j2, e2⟩ := cLc_map (mi := m_sums_lc1_it) (own := [7]) (tgt := tN 7) (mt := bYes) (me := m_sums_lc1_elt) (ρ := [some G, some (bookD book), some (.bl told), some (weavD ts), some (.int b), some (.ref n), some (rowD one), none]) (st := st ++ X ++ .lst acc :: j)
        (as := book) (it := rowD) (g := fun two => .int (entry told b ts one two)) (lk := []) rfl okW_nil (small_size (by omega)) (fun two h2 acc2 j2 => by
          refine ⟨_, rfl, rfl, j2, ?_⟩
          have a1 := b3 one h1
          have a2 := b3 two h2
          obtain ⟨c1, c2⟩ := heads_ok (told := told) (a1.1.trans w1.symm) (a2.1.trans w1.symm) a1.2 a2.2
          have c3 := many_in_eq (S := st ++ X ++ .lst acc :: j ++ .lst acc2 :: j2) (n := n) (hC.app.app) c1 (by omega) c2
          have c4 := heads_of_eq told one two ts (by omega) (st ++ X ++ .lst acc :: j ++ .lst acc2 :: j2)
          simp only [List.append_assoc, List.cons_append] at c3 c4 ⊢
          simp [runDef, plains, startM, outR, sRet, sSeq, sIf, sAsg, sNext, sExpr, sRaise, sRetN, sAug, sPar, thenS, tN, cVar, cK, cOp, cIf, cAnd, cOr, cNot, cNotT, cNeg, cChain, cTup, cLst, cBi, cCall, cCallF, cCallP, cIsi,   aNil, aCons, afNil, afCons, afDef, afSlot, afLam, bVal, bTru, bAnd, bOr, bNot, R.bind, lift, isM, isNotM, isB, leM, ltM, geM, gtM, intM, subM, modM, divM, mulM, addM, ixM, truM, tyName, isiT, itemsOf, lenM, iaddM, isubM, min2M, max2M, eqM_int, neM_int, small_size, small_size2, m_sums_lc1_elt, wipeM, c4, c3, entry])
      have e3 := tup_lc e2
      refine ⟨j ++ .lst (book.map fun two => .int (entry told b ts one two)) :: j2, ?_⟩
      simp only [List.append_assoc, List.cons_append] at e3 ⊢
      exact e3)
  have e2 := tup_lc e
  rw [List.append_assoc] at e2
  refine run_b (m := m_sums_b1) (g := X ++ .lst (book.map fun one => .tup (book.map fun two => .int (entry told b ts one two))) :: j) ?_ (table_flat told b ts book)
  have e4 : m_sums_b3 [some G, some (bookD book), some (.bl told), some (weavD ts), some (.int b), some (.ref n), none, none] (st ++ X) = .rt (tableD told b ts book) (st ++ (X ++ .lst (book.map fun one => .tup (book.map fun two => .int (entry told b ts one two))) :: j)) := by
    unfold m_sums_b3 sRet thenS
    rw [e2]
    rfl
  simp [runDef, plains, startM, outR, sRet, sSeq, sIf, sAsg, sNext, sExpr, sRaise, sRetN, sAug, sPar, thenS, tN, cVar, cK, cOp, cIf, cAnd, cOr, cNot, cNotT, cNeg, cChain, cTup, cLst, cBi, cCall, cCallF, cCallP, cIsi,   aNil, aCons, afNil, afCons, afDef, afSlot, afLam, bVal, bTru, bAnd, bOr, bNot, R.bind, lift, isM, isNotM, isB, leM, ltM, geM, gtM, intM, subM, modM, divM, mulM, addM, ixM, truM, tyName, isiT, itemsOf, lenM, iaddM, isubM, min2M, max2M, eqM_int, neM_int, small_size, small_size2, m_sums_b1, m_sums_b2, hc, e1, e4]

theorem firstBad_app {f : D → Bool} {y : D} (hy : f y = false) : ∀ {xs : List D} {k : Nat}, (∀ x ∈ xs, f x = true) → firstBad f k (xs ++ [y]) = some (k + xs.length)
  | [], k, _ => by simp [firstBad, hy]
  | x :: xs, k, h => by
    have h1 := h x List.mem_cons_self
    have ih := firstBad_app hy (xs := xs) (k := k + 1) fun z hz => h z (List.mem_cons_of_mem _ hz)
    simp [firstBad, h1, ih]
    omega
theorem firstBad_none {f : D → Bool} {xs : List D} {k : Nat} (h : ∀ x ∈ xs, f x = true) : firstBad f k xs = none := firstBad_all.mpr (List.all_eq_true.mpr h)
theorem rowB_good {n : Nat} {r : List Fate} (h : r.length = n) (hf : ∀ f ∈ r, bdOk f.1 = true ∧ bdOk f.2 = true) : rowB n (rowD r) = true := by
  unfold rowB rowD inLen
  simp [h]
  intro a b hx
  have := hf _ hx
  rw [fateB_eq]
  simpa using this
theorem rowB_long {n : Nat} {r : List Fate} (h : r.length ≠ n) : rowB n (rowD r) = false := by
  unfold rowB rowD inLen
  simp
  intro h1 h2
  omega
theorem tapeB_good {t : List Int} (h : t.length ≤ 1024 ∧ ∀ x ∈ t, 0 ≤ x ∧ x ≤ 63) : tapeB (tapeD t) = true := by
  unfold tapeB tapeD inLen
  simp [numB]
  exact ⟨by have := h.1; omega, fun x hx => (h.2 x hx)⟩
section
variable {p n : Int} {pts : List Int} {book : List (List Fate)} {ts : List (List Int)} {st : Sto}
theorem check_ground (h : GoodG p 0 pts) (B t W b : D) : M_check_written [] [gD p 0 pts, B, t, W, b] st = .ex "BadGround" (.int 1) st := by
  have e := shelves_eq h st
  rw [if_neg (by omega)] at e
  have e2 : M_check_manner [] [gD p 0 pts, B, t] st = .ex "BadGround" (.int 1) st := by simp [runDef, plains, startM, outR, sRet, sSeq, sIf, sAsg, sNext, sExpr, sRaise, sRetN, sAug, sPar, thenS, tN, cVar, cK, cOp, cIf, cAnd, cOr, cNot, cNotT, cNeg, cChain, cTup, cLst, cBi, cCall, cCallF, cCallP, cIsi,   aNil, aCons, afNil, afCons, afDef, afSlot, afLam, bVal, bTru, bAnd, bOr, bNot, R.bind, lift, isM, isNotM, isB, leM, ltM, geM, gtM, intM, subM, modM, divM, mulM, addM, ixM, truM, tyName, isiT, itemsOf, lenM, iaddM, isubM, min2M, max2M, eqM_int, neM_int, small_size, small_size2, M_check_manner, m_check_manner_b1, e]
  simp [runDef, plains, startM, outR, sRet, sSeq, sIf, sAsg, sNext, sExpr, sRaise, sRetN, sAug, sPar, thenS, tN, cVar, cK, cOp, cIf, cAnd, cOr, cNot, cNotT, cNeg, cChain, cTup, cLst, cBi, cCall, cCallF, cCallP, cIsi,   aNil, aCons, afNil, afCons, afDef, afSlot, afLam, bVal, bTru, bAnd, bOr, bNot, R.bind, lift, isM, isNotM, isB, leM, ltM, geM, gtM, intM, subM, modM, divM, mulM, addM, ixM, truM, tyName, isiT, itemsOf, lenM, iaddM, isubM, min2M, max2M, eqM_int, neM_int, small_size, small_size2, M_check_written, m_check_written_b1, e2]
theorem manner_eq (h : GoodG p n pts) (hn : 1 ≤ n ∧ n ≤ 12) (hb : book ≠ []) (hl : book.length ≤ 24) (t : D) : M_check_manner [] [gD p n pts, bookD book, t] st = match firstBad (rowB pts.length) 0 (book.map rowD) with
    | none => (match t with
      | .bl _ => .ok .non st
      | .int i => .ex "BadTold" (.int i) st
      | _ => M_check_manner [] [gD p n pts, bookD book, t] st)
    | some i => .ex "BadBook" (.int (i : Nat)) st := by
  have e := shelves_eq h st
  rw [if_pos hn] at e
  have e1 := made_book_eq (n := pts.length) (by have := h.2.2.1; omega) (by have := h.2.1; omega) book hb hl st
  cases hf : firstBad (rowB pts.length) 0 (book.map rowD) with
  | some i =>
    rw [hf] at e1
    have e2 : M_check_rules [] [.int pts.length, bookD book, t] st = .ex "BadBook" (.int (i : Nat)) st := by simp [runDef, plains, startM, outR, sRet, sSeq, sIf, sAsg, sNext, sExpr, sRaise, sRetN, sAug, sPar, thenS, tN, cVar, cK, cOp, cIf, cAnd, cOr, cNot, cNotT, cNeg, cChain, cTup, cLst, cBi, cCall, cCallF, cCallP, cIsi,   aNil, aCons, afNil, afCons, afDef, afSlot, afLam, bVal, bTru, bAnd, bOr, bNot, R.bind, lift, isM, isNotM, isB, leM, ltM, geM, gtM, intM, subM, modM, divM, mulM, addM, ixM, truM, tyName, isiT, itemsOf, lenM, iaddM, isubM, min2M, max2M, eqM_int, neM_int, small_size, small_size2, M_check_rules, m_check_rules_b1, e1]
    simp [runDef, plains, startM, outR, sRet, sSeq, sIf, sAsg, sNext, sExpr, sRaise, sRetN, sAug, sPar, thenS, tN, cVar, cK, cOp, cIf, cAnd, cOr, cNot, cNotT, cNeg, cChain, cTup, cLst, cBi, cCall, cCallF, cCallP, cIsi,   aNil, aCons, afNil, afCons, afDef, afSlot, afLam, bVal, bTru, bAnd, bOr, bNot, R.bind, lift, isM, isNotM, isB, leM, ltM, geM, gtM, intM, subM, modM, divM, mulM, addM, ixM, truM, tyName, isiT, itemsOf, lenM, iaddM, isubM, min2M, max2M, eqM_int, neM_int, small_size, small_size2, M_check_manner, m_check_manner_b1, e, e2]
  | none =>
    rw [hf] at e1
    cases t with
    | bl b =>
      have e2 : M_check_rules [] [.int pts.length, bookD book, .bl b] st = .ok .non st := by simp [runDef, plains, startM, outR, sRet, sSeq, sIf, sAsg, sNext, sExpr, sRaise, sRetN, sAug, sPar, thenS, tN, cVar, cK, cOp, cIf, cAnd, cOr, cNot, cNotT, cNeg, cChain, cTup, cLst, cBi, cCall, cCallF, cCallP, cIsi,   aNil, aCons, afNil, afCons, afDef, afSlot, afLam, bVal, bTru, bAnd, bOr, bNot, R.bind, lift, isM, isNotM, isB, leM, ltM, geM, gtM, intM, subM, modM, divM, mulM, addM, ixM, truM, tyName, isiT, itemsOf, lenM, iaddM, isubM, min2M, max2M, eqM_int, neM_int, small_size, small_size2, M_check_rules, m_check_rules_b1, m_check_rules_b2, e1, is_told_bl]
      simp [runDef, plains, startM, outR, sRet, sSeq, sIf, sAsg, sNext, sExpr, sRaise, sRetN, sAug, sPar, thenS, tN, cVar, cK, cOp, cIf, cAnd, cOr, cNot, cNotT, cNeg, cChain, cTup, cLst, cBi, cCall, cCallF, cCallP, cIsi,   aNil, aCons, afNil, afCons, afDef, afSlot, afLam, bVal, bTru, bAnd, bOr, bNot, R.bind, lift, isM, isNotM, isB, leM, ltM, geM, gtM, intM, subM, modM, divM, mulM, addM, ixM, truM, tyName, isiT, itemsOf, lenM, iaddM, isubM, min2M, max2M, eqM_int, neM_int, small_size, small_size2, M_check_manner, m_check_manner_b1, e, e2]
    | int i =>
      have e2 : M_check_rules [] [.int pts.length, bookD book, .int i] st = .ex "BadTold" (.int i) st := by simp [runDef, plains, startM, outR, sRet, sSeq, sIf, sAsg, sNext, sExpr, sRaise, sRetN, sAug, sPar, thenS, tN, cVar, cK, cOp, cIf, cAnd, cOr, cNot, cNotT, cNeg, cChain, cTup, cLst, cBi, cCall, cCallF, cCallP, cIsi,   aNil, aCons, afNil, afCons, afDef, afSlot, afLam, bVal, bTru, bAnd, bOr, bNot, R.bind, lift, isM, isNotM, isB, leM, ltM, geM, gtM, intM, subM, modM, divM, mulM, addM, ixM, truM, tyName, isiT, itemsOf, lenM, iaddM, isubM, min2M, max2M, eqM_int, neM_int, small_size, small_size2, M_check_rules, m_check_rules_b1, m_check_rules_b2, e1, is_told_int]
      simp [runDef, plains, startM, outR, sRet, sSeq, sIf, sAsg, sNext, sExpr, sRaise, sRetN, sAug, sPar, thenS, tN, cVar, cK, cOp, cIf, cAnd, cOr, cNot, cNotT, cNeg, cChain, cTup, cLst, cBi, cCall, cCallF, cCallP, cIsi,   aNil, aCons, afNil, afCons, afDef, afSlot, afLam, bVal, bTru, bAnd, bOr, bNot, R.bind, lift, isM, isNotM, isB, leM, ltM, geM, gtM, intM, subM, modM, divM, mulM, addM, ixM, truM, tyName, isiT, itemsOf, lenM, iaddM, isubM, min2M, max2M, eqM_int, neM_int, small_size, small_size2, M_check_manner, m_check_manner_b1, e, e2]
    | _ => rfl
theorem rows_good (h : GoodB pts.length book) : firstBad (rowB pts.length) 0 (book.map rowD) = none := firstBad_none fun x hx => by
  obtain ⟨r, hr, rfl⟩ := List.mem_map.mp hx
  exact rowB_good (h.2.2 r hr).1 (h.2.2 r hr).2
theorem check_book (h : GoodG p n pts) (hn : 1 ≤ n ∧ n ≤ 12) (hB : GoodB pts.length book) (hl : book.length < 24) (r : List Fate) (hr : r.length ≠ pts.length) (t W b : D) :
    M_check_written [] [gD p n pts, bookD (book ++ [r]), t, W, b] st = .ex "BadBook" (.int (book.length : Nat)) st := by
  have e := manner_eq (st := st) h hn (book := book ++ [r]) (by simp) (by simp; omega) t
  have e2 : firstBad (rowB pts.length) 0 ((book ++ [r]).map rowD) = some book.length := by
    rw [List.map_append]
    have := firstBad_app (f := rowB pts.length) (y := rowD r) (rowB_long hr) (xs := book.map rowD) (k := 0) fun x hx => by
      obtain ⟨q, hq, rfl⟩ := List.mem_map.mp hx
      exact rowB_good (hB.2.2 q hq).1 (hB.2.2 q hq).2
    simpa using this
  rw [e2] at e
  simp [runDef, plains, startM, outR, sRet, sSeq, sIf, sAsg, sNext, sExpr, sRaise, sRetN, sAug, sPar, thenS, tN, cVar, cK, cOp, cIf, cAnd, cOr, cNot, cNotT, cNeg, cChain, cTup, cLst, cBi, cCall, cCallF, cCallP, cIsi,   aNil, aCons, afNil, afCons, afDef, afSlot, afLam, bVal, bTru, bAnd, bOr, bNot, R.bind, lift, isM, isNotM, isB, leM, ltM, geM, gtM, intM, subM, modM, divM, mulM, addM, ixM, truM, tyName, isiT, itemsOf, lenM, iaddM, isubM, min2M, max2M, eqM_int, neM_int, small_size, small_size2, M_check_written, m_check_written_b1, e]
theorem check_told (h : GoodG p n pts) (hn : 1 ≤ n ∧ n ≤ 12) (hB : GoodB pts.length book) (i : Int) (W b : D) : M_check_written [] [gD p n pts, bookD book, .int i, W, b] st = .ex "BadTold" (.int i) st := by
  have e := manner_eq (st := st) h hn hB.1 hB.2.1 (.int i)
  rw [rows_good hB] at e
  simp [runDef, plains, startM, outR, sRet, sSeq, sIf, sAsg, sNext, sExpr, sRaise, sRetN, sAug, sPar, thenS, tN, cVar, cK, cOp, cIf, cAnd, cOr, cNot, cNotT, cNeg, cChain, cTup, cLst, cBi, cCall, cCallF, cCallP, cIsi,   aNil, aCons, afNil, afCons, afDef, afSlot, afLam, bVal, bTru, bAnd, bOr, bNot, R.bind, lift, isM, isNotM, isB, leM, ltM, geM, gtM, intM, subM, modM, divM, mulM, addM, ixM, truM, tyName, isiT, itemsOf, lenM, iaddM, isubM, min2M, max2M, eqM_int, neM_int, small_size, small_size2, M_check_written, m_check_written_b1, e]
theorem check_weaving (h : GoodG p n pts) (hn : 1 ≤ n ∧ n ≤ 12) (hB : GoodB pts.length book) (told : Bool) {d : D} (hd : d ≠ .non) (hw : (if ts.length = pts.length then optD (firstBad tapeB 0 (ts.map tapeD)) else .int (-1)) = d) (b : D) :
    M_check_written [] [gD p n pts, bookD book, .bl told, weavD ts, b] st = .ex "BadWeaving" d st := by
  have e := manner_eq (st := st) h hn hB.1 hB.2.1 (.bl told)
  rw [rows_good hB] at e
  have e2 := made_weaving_eq h hn ts st
  rw [hw] at e2
  cases d with
  | non => exact absurd rfl hd
  | _ => simp [runDef, plains, startM, outR, sRet, sSeq, sIf, sAsg, sNext, sExpr, sRaise, sRetN, sAug, sPar, thenS, tN, cVar, cK, cOp, cIf, cAnd, cOr, cNot, cNotT, cNeg, cChain, cTup, cLst, cBi, cCall, cCallF, cCallP, cIsi,   aNil, aCons, afNil, afCons, afDef, afSlot, afLam, bVal, bTru, bAnd, bOr, bNot, R.bind, lift, isM, isNotM, isB, leM, ltM, geM, gtM, intM, subM, modM, divM, mulM, addM, ixM, truM, tyName, isiT, itemsOf, lenM, iaddM, isubM, min2M, max2M, eqM_int, neM_int, small_size, small_size2, M_check_written, m_check_written_b1, m_check_written_b2, e, e2]
theorem check_number (h : GoodG p n pts) (hn : 1 ≤ n ∧ n ≤ 12) (hB : GoodB pts.length book) (hW : GoodW pts.length ts) (told : Bool) (b : Int) :
    M_check_written [] [gD p n pts, bookD book, .bl told, weavD ts, .int b] st = if 0 ≤ b ∧ b ≤ 63 then .ok .non st else .ex "BadNumber" (.int b) st := by
  have e := manner_eq (st := st) h hn hB.1 hB.2.1 (.bl told)
  rw [rows_good hB] at e
  have e2 := made_weaving_eq h hn ts st
  rw [if_pos hW.1, firstBad_none (fun x hx => by
    obtain ⟨t, ht, rfl⟩ := List.mem_map.mp hx
    exact tapeB_good (hW.2 t ht))] at e2
  have e3 := made_batch_number_eq b st
  simp only [optD] at e2
  split
  · rename_i z
    rw [if_pos z] at e3
    simp [runDef, plains, startM, outR, sRet, sSeq, sIf, sAsg, sNext, sExpr, sRaise, sRetN, sAug, sPar, thenS, tN, cVar, cK, cOp, cIf, cAnd, cOr, cNot, cNotT, cNeg, cChain, cTup, cLst, cBi, cCall, cCallF, cCallP, cIsi,   aNil, aCons, afNil, afCons, afDef, afSlot, afLam, bVal, bTru, bAnd, bOr, bNot, R.bind, lift, isM, isNotM, isB, leM, ltM, geM, gtM, intM, subM, modM, divM, mulM, addM, ixM, truM, tyName, isiT, itemsOf, lenM, iaddM, isubM, min2M, max2M, eqM_int, neM_int, small_size, small_size2, M_check_written, m_check_written_b1, m_check_written_b2, m_check_written_b3, e, e2, e3]
  · rename_i z
    rw [if_neg z] at e3
    simp [runDef, plains, startM, outR, sRet, sSeq, sIf, sAsg, sNext, sExpr, sRaise, sRetN, sAug, sPar, thenS, tN, cVar, cK, cOp, cIf, cAnd, cOr, cNot, cNotT, cNeg, cChain, cTup, cLst, cBi, cCall, cCallF, cCallP, cIsi,   aNil, aCons, afNil, afCons, afDef, afSlot, afLam, bVal, bTru, bAnd, bOr, bNot, R.bind, lift, isM, isNotM, isB, leM, ltM, geM, gtM, intM, subM, modM, divM, mulM, addM, ixM, truM, tyName, isiT, itemsOf, lenM, iaddM, isubM, min2M, max2M, eqM_int, neM_int, small_size, small_size2, M_check_written, m_check_written_b1, m_check_written_b2, m_check_written_b3, e, e2, e3]
theorem sums_ex {G B t W b d : D} {c : Str} (h : M_check_written [] [G, B, t, W, b] st = .ex c d st) : M_sums [] [G, B, t, W, b] st = .ex c d st := by
  simp [runDef, plains, startM, outR, sRet, sSeq, sIf, sAsg, sNext, sExpr, sRaise, sRetN, sAug, sPar, thenS, tN, cVar, cK, cOp, cIf, cAnd, cOr, cNot, cNotT, cNeg, cChain, cTup, cLst, cBi, cCall, cCallF, cCallP, cIsi,   aNil, aCons, afNil, afCons, afDef, afSlot, afLam, bVal, bTru, bAnd, bOr, bNot, R.bind, lift, isM, isNotM, isB, leM, ltM, geM, gtM, intM, subM, modM, divM, mulM, addM, ixM, truM, tyName, isiT, itemsOf, lenM, iaddM, isubM, min2M, max2M, eqM_int, neM_int, small_size, small_size2, M_sums, m_sums_b1, h]
end

local macro_rules | `(tactic| walk_at "w1") => `(tactic| (first
  | ((with_reducible show Vc _ _); first
      | ((with_reducible apply W_var); exact rfl)
      | (with_reducible refine W_K ?_)
      | (with_reducible refine W_cons ?_)
      | (with_reducible refine W_nil ?_)
      | (with_reducible refine W_op ?_)
      | (with_reducible refine W_bi ?_)
      | (with_reducible refine W_call ?_)
      | (with_reducible refine W_callF ?_)
      | (with_reducible refine W_callP ?_)
      | (with_reducible refine W_afCons ?_)
      | (with_reducible refine W_afNil ?_)
      | (with_reducible refine W_afDef ?_)
      | (with_reducible refine W_afSlot ?_)
      | (with_reducible refine W_afLam ?_)
      | (with_reducible refine W_afLamA ?_)
      | (with_reducible refine W_tup ?_)
      | (with_reducible refine W_lstG ?_)
      | (with_reducible refine W_if ?_)
      | (with_reducible refine W_and ?_)
      | (with_reducible refine W_or ?_)
      | (with_reducible refine W_not ?_)
      | (with_reducible refine W_notT ?_)
      | (with_reducible refine W_neg ?_)
      | (with_reducible refine W_chain ?_)
      | (with_reducible refine W_isi ?_)
      | (with_reducible refine W_val ?_)
      | (with_reducible refine W_tru ?_)
      | (with_reducible refine W_bAnd ?_)
      | (with_reducible refine W_bOr ?_)
      | (with_reducible refine W_bNot ?_)
      | (with_reducible refine W_sl ?_)
      | (with_reducible refine W_poN ?_)
      | (with_reducible refine W_poS ?_)
      | (with_reducible refine W_rev ?_)
      | (with_reducible refine W_meth ?_)
      | (with_reducible refine W_count ?_)
      | (with_reducible refine W_seq ?_)
      | (with_reducible refine W_arg ?_)
      | (with_reducible refine W_ok ?_)
      | (with_reducible refine O_add ?_)
      | (with_reducible refine O_iadd ?_)
      | (with_reducible refine O_sub ?_)
      | (with_reducible refine O_lt ?_)
      | (with_reducible refine O_le ?_)
      | (with_reducible refine O_gt ?_)
      | (with_reducible refine O_ge ?_)
      | (with_reducible refine O_eq ?_)
      | (with_reducible refine O_ne ?_)
      | (with_reducible refine O_lenT ?_)
      | (with_reducible refine O_lenF ?_)
      | (with_reducible refine O_tupT ?_)
      | (with_reducible refine O_listT ?_)
      | (with_reducible refine O_int ?_)
      | (with_reducible refine O_intB ?_)
      | (with_reducible refine O_min2 ?_)
      | (with_reducible refine O_max2 ?_)
      | (with_reducible refine O_slT ?_)
      | (with_reducible refine O_revT ?_)
      | (with_reducible refine O_truB ?_)
      | (with_reducible refine O_truT ?_)
      | (with_reducible refine O_truI ?_)
      | (with_reducible refine I_tup ?_)
      | (with_reducible refine I_enT ?_)
      | (with_reducible refine I_zipTT ?_)
      | ((with_reducible apply O_ixT); (first | with_reducible assumption | exact atI_zero | exact atI_one | exact atI_two | assumption | exact rfl))
      | ((with_reducible apply O_ixF); (first | with_reducible assumption | exact atI_zero | exact atI_one | exact atI_two | assumption | exact rfl))
      | ((with_reducible apply O_ixR); (first | assumption | exact at_new); (first | with_reducible assumption | exact atI_zero | exact atI_one | exact atI_two | assumption | exact rfl))
      | ((with_reducible apply O_lenR); first | assumption | exact at_new)
      | ((with_reducible apply O_tupR); first | assumption | exact at_new)
      | ((with_reducible apply O_listR); first | assumption | exact at_new)
      | ((with_reducible apply O_slR); first | assumption | exact at_new)
      | ((with_reducible apply O_revR); first | assumption | exact at_new)
      | ((with_reducible apply O_truR); first | assumption | exact at_new)
      | ((with_reducible apply I_ref); first | assumption | exact at_new)
      | ((with_reducible apply I_enR); first | assumption | exact at_new)
      | ((with_reducible apply I_zipRT); first | assumption | exact at_new)
      | ((with_reducible apply I_zipTR); first | assumption | exact at_new)
      | ((with_reducible apply O_sum); first | assumption | exact at_new)
      | ((with_reducible apply O_is); exact rfl)
      | ((with_reducible apply O_isNot); exact rfl)
      | ((with_reducible refine O_mod ?_ ?_); first | assumption | omega)
      | ((with_reducible refine O_div ?_ ?_); first | assumption | omega)
      | ((with_reducible refine O_mulL ?_ ?_); first | assumption | (constructor <;> omega))
      | ((with_reducible refine O_mulR ?_ ?_); first | assumption | (constructor <;> omega))
      | ((with_reducible refine I_rng ?_ ?_); first | assumption | (constructor <;> omega))
      | ((with_reducible apply W_ofM); first | with_reducible assumption | assumption)
      | ((with_reducible apply W_lift); with_reducible assumption)
      | ((with_reducible refine O_repT ?_ ?_); exact ⟨by simp, by simp, by omega, by omega⟩)
      | ((with_reducible apply V_len); exact rfl; first | exact List.length_map _ | exact rfl)
      | ((with_reducible apply V_ix); exact rfl; first | with_reducible assumption | exact atI_zero | exact atI_one | exact atI_two | assumption)
      | ((with_reducible apply V_sl); exact rfl)
      | ((with_reducible apply V_tuple); exact rfl)
      | ((with_reducible apply V_tru); exact rfl)
      | ((with_reducible apply V_walk); exact rfl)
      | ((with_reducible apply V_enum); exact rfl)
      | ((with_reducible apply V_rev); exact rfl)
      | ((with_reducible apply V_zip); exact rfl; exact rfl)
      | ((with_reducible apply V_cat); exact rfl; exact rfl; first | (simp; done) | (simp; omega)))
  | ((with_reducible show Exists _); first
      | (with_reducible refine E_bl ?_)
      | (with_reducible refine E_int ?_)
      | (with_reducible refine E_one ?_)
      | (with_reducible refine E_two ?_)
      | (with_reducible refine E_three ?_)
      | ((with_reducible apply E_some); first | assumption | exact rfl)
      | ((with_reducible apply E_ref); first | assumption | exact at_new)
      | ((with_reducible apply E_app); (first | assumption | exact at_new); (first | omega | assumption | (simp; done) | (simp; omega))))
  | ((with_reducible show Oc _ _ _); first
      | ((with_reducible apply Oc_ok); first | with_reducible assumption | assumption)
      | ((with_reducible apply Oc_ex); with_reducible assumption)
      | (with_reducible refine Oc_W ?_))
  | (with_reducible refine S_seq ?_)
  | (with_reducible refine S_exprC ?_)
  | (with_reducible refine S_retC ?_)
  | (with_reducible refine S_asgC ?_)
  | (with_reducible refine S_asgN ?_)
  | (with_reducible refine S_expr ?_)
  | (with_reducible refine S_ret ?_)
  | (with_reducible refine S_retN ?_)
  | (with_reducible refine S_if ?_)
  | (with_reducible refine S_next ?_)
  | (with_reducible refine S_ct ?_)
  | (with_reducible refine S_bk ?_)
  | (with_reducible refine S_par ?_)
  | (with_reducible refine S_raise ?_)
  | (with_reducible refine K_rt ?_)
  | (with_reducible refine K_bk ?_)
  | (with_reducible refine K_ct ?_)
  | (with_reducible refine K_ex ?_)
  | (with_reducible refine X_ex ?_)
  | (with_reducible refine L_nx ?_)
  | (with_reducible refine L_ct ?_)
  | (with_reducible refine L_bk ?_)
  | (with_reducible refine L_rt ?_)
  | (with_reducible refine R_rt ?_)
  | (with_reducible refine R_nx ?_)
  | ((with_reducible refine K_nx ?_); try simp only [List.set_cons_zero, List.set_cons_succ])
  | ((with_reducible refine' S_aug ?haug ?_); case haug => exact rfl)
  | (with_reducible refine BR_t ?_)
  | (with_reducible refine BR_f ?_)
  | (with_reducible refine BR_n ?_)
  | ((with_reducible refine A_len ?_ ?_); first | exact of_decide_eq_true rfl | assumption | omega)
  | ((with_reducible refine And.intro ?_ ?_); exact rfl)
  | ((with_reducible refine BR_pos ?_ ?_); first | with_reducible assumption | omega)
  | ((with_reducible refine BR_neg ?_ ?_); first | with_reducible assumption | omega)
  | ((with_reducible refine BR_T ?_ ?_); first | with_reducible assumption | exact rfl)
  | ((with_reducible refine BR_F ?_ ?_); first | with_reducible assumption | exact rfl)
  | (with_reducible exact List.prefix_refl _)))
local macro_rules | `(tactic| walk_at "w") => `(tactic| (repeat walk_at "w1"))
local macro_rules | `(tactic| walk_at "st") => `(tactic| (simp only [startM, List.replicate_succ, List.replicate_zero]))

/-! values of any kind, and what the program's tests say of them -/
mutual
def D.val : D → Bool
  | .non => true
  | .bl _ => true
  | .int _ => true
  | .str _ => true
  | .tup xs => D.vals xs
  | _ => false
def D.vals : List D → Bool
  | [] => true
  | d :: ds => D.val d && D.vals ds
end
mutual
theorem D.val_flat : ∀ {d : D}, D.val d = true → d.flat = true
  | .non, _ => by unfold D.flat; rfl
  | .bl _, _ => by unfold D.flat; rfl
  | .int _, _ => by unfold D.flat; rfl
  | .str _, _ => by unfold D.flat; rfl
  | .ref _, h => by unfold D.val at h; cases h
  | .tup xs, h => by unfold D.val at h; unfold D.flat; exact D.vals_flats h
  | .fl xs, h => by unfold D.val at h; cases h
  | .wt xs, h => by unfold D.val at h; cases h
theorem D.vals_flats : ∀ {ds : List D}, D.vals ds = true → D.flats ds = true
  | [], _ => by unfold D.flats; rfl
  | d :: ds, h => by
    unfold D.vals at h
    rw [Bool.and_eq_true] at h
    unfold D.flats
    rw [D.val_flat h.1, D.vals_flats h.2]
    rfl
end
theorem D.vals_mem : ∀ {ds : List D}, D.vals ds = true → ∀ d ∈ ds, D.val d = true
  | [], _, d, h => by cases h
  | e :: ds, h, d, hd => by
    unfold D.vals at h
    rw [Bool.and_eq_true] at h
    rcases List.mem_cons.mp hd with rfl | hd
    · exact h.1
    · exact D.vals_mem h.2 d hd
theorem D.vals_of : ∀ {ds : List D}, (∀ d ∈ ds, D.val d = true) → D.vals ds = true
  | [], _ => by unfold D.vals; rfl
  | e :: ds, h => by
    unfold D.vals
    rw [h e List.mem_cons_self, D.vals_of fun d hd => h d (List.mem_cons_of_mem _ hd)]
    rfl
theorem D.val_tup {xs : List D} : D.val (.tup xs) = true ↔ ∀ d ∈ xs, D.val d = true := ⟨fun h => D.vals_mem (by unfold D.val at h; exact h), fun h => by unfold D.val; exact D.vals_of h⟩
def intB : D → Bool
  | .int _ => true
  | _ => false
def btw (l m : Int) : D → Bool
  | .int i => decide (l ≤ i) && decide (i ≤ m)
  | _ => false
def pairB : D → Bool
  | .tup xs => decide ((xs.length : Int) = 2)
  | _ => false
def tupF (f : D → Bool) (l m : Int) : D → D
  | .tup xs => if l ≤ (xs.length : Int) ∧ (xs.length : Int) ≤ m then (match fBad f 0 xs with
    | some i => .int (i : Nat)
    | none => .non) else .int (-1)
  | _ => .int (-1)
where
  fBad (f : D → Bool) : Nat → List D → Option Nat
    | _, [] => none
    | k, x :: xs => if f x = true then fBad f (k + 1) xs else some k
def tupB (f : D → Bool) (l m : Int) : D → Bool
  | .tup xs => decide (l ≤ (xs.length : Int)) && decide ((xs.length : Int) ≤ m) && xs.all f
  | _ => false
theorem is_number_v {d : D} (h : D.val d = true) (st : Sto) : M_is_number [] [d] st = .ok (.bl (intB d)) st := by
  cases d <;> first | (unfold D.val at h; cases h; done) | skip
  all_goals
    refine run_val (m := m_is_number_b1) rfl ?_
    unfold m_is_number_b1
    walk_at "st"
    walk_at "w"
theorem btw_v {d : D} (h : D.val d = true) (l m : Int) (st : Sto) : M_number_between [] [d, .int l, .int m] st = .ok (.bl (btw l m d)) st := by
  have e := is_number_v h st
  refine run_val (m := m_number_between_b1) rfl ?_
  unfold m_number_between_b1
  walk_at "st"
  walk_at "w"
  cases d <;> first | (unfold D.val at h; cases h; done) | skip
  all_goals unfold intB btw
  all_goals walk_at "w"
  rename_i i
  refine BR_d (fun c => ?_) (fun c => ?_)
  · walk_at "w"
    simp [c]
  · walk_at "w"
    simp [c]
theorem fBad_all {f : D → Bool} : ∀ {xs : List D} {k : Nat}, tupF.fBad f k xs = none ↔ xs.all f = true
  | [], k => by simp [tupF.fBad]
  | x :: xs, k => by
    unfold tupF.fBad
    cases h : f x
    · simp [h]
    · simp [h, fBad_all (xs := xs) (k := k + 1)]
theorem tuple_fault_loopV {φ : Clo} {f : D → Bool} {a b c : Option D} : ∀ (xs : List D) (k : Nat) (u v : Option D) (st : Sto), PureOn φ st f xs →
    ∃ u' v', loopF (okW []) (tT 2 (tsCons (tN 4) (tsCons (tN 5) tsNil))) (m_tuple_fault_for1_body φ) (enumL k xs) [a, b, c, none, u, v] st = match tupF.fBad f k xs with
      | some i => .rt (.int (i : Nat)) st
      | none => .nx [a, b, c, none, u', v'] st
  | [], k, u, v, st, h => ⟨u, v, loopF_nil okW_nil⟩
  | x :: xs, k, u, v, st, h => by
    have h1 := h x List.mem_cons_self
    obtain ⟨u', v', ih⟩ := tuple_fault_loopV (a := a) (b := b) (c := c) xs (k + 1) (some (.int k)) (some x) st fun y hy => h y (List.mem_cons_of_mem _ hy)
    refine ⟨u', v', ?_⟩
    unfold enumL tupF.fBad
    have ht : tT 2 (tsCons (tN 4) (tsCons (tN 5) tsNil)) (.wt [.int (k : Nat), x]) [a, b, c, none, u, v] st = some ([a, b, c, none, some (.int (k : Nat)), some x], st) := rfl
    cases hf : f x
    · rw [loopF_rt (ρ1 := [a, b, c, none, some (.int (k : Nat)), some x]) (x := .int (k : Nat)) (s2 := st) okW_nil ht (by simp [runDef, plains, startM, outR, sRet, sSeq, sIf, sAsg, sNext, sExpr, sRaise, sRetN, sAug, sPar, thenS, tN, cVar, cK, cOp, cIf, cAnd, cOr, cNot, cNotT, cNeg, cChain, cTup, cLst, cBi, cCall, cCallF, cCallP, cIsi,   aNil, aCons, afNil, afCons, afDef, afSlot, afLam, bVal, bTru, bAnd, bOr, bNot, R.bind, lift, isM, isNotM, isB, leM, ltM, geM, gtM, intM, subM, modM, divM, mulM, addM, ixM, truM, tyName, isiT, itemsOf, lenM, iaddM, isubM, min2M, max2M, eqM_int, neM_int, small_size, small_size2, m_tuple_fault_for1_body, h1, hf])]
      rfl
    · rw [loopF_nx (ρ1 := [a, b, c, none, some (.int (k : Nat)), some x]) (ρ2 := [a, b, c, none, some (.int (k : Nat)), some x]) (s2 := st) okW_nil ht (by simp [runDef, plains, startM, outR, sRet, sSeq, sIf, sAsg, sNext, sExpr, sRaise, sRetN, sAug, sPar, thenS, tN, cVar, cK, cOp, cIf, cAnd, cOr, cNot, cNotT, cNeg, cChain, cTup, cLst, cBi, cCall, cCallF, cCallP, cIsi,   aNil, aCons, afNil, afCons, afDef, afSlot, afLam, bVal, bTru, bAnd, bOr, bNot, R.bind, lift, isM, isNotM, isB, leM, ltM, geM, gtM, intM, subM, modM, divM, mulM, addM, ixM, truM, tyName, isiT, itemsOf, lenM, iaddM, isubM, min2M, max2M, eqM_int, neM_int, small_size, small_size2, m_tuple_fault_for1_body, h1, hf]), ih]
      rfl
theorem isi_tup {d : D} (h : D.val d = true) (hn : ∀ xs, d ≠ .tup xs) : ∃ n, (∀ s, tyName d s = some n) ∧ isiT "tuple" n = false := by
  cases d <;> first | (unfold D.val at h; cases h; done) | skip
  · exact ⟨0, fun _ => rfl, rfl⟩
  · exact ⟨1, fun _ => rfl, rfl⟩
  · exact ⟨2, fun _ => rfl, rfl⟩
  · exact ⟨3, fun _ => rfl, rfl⟩
  · exact absurd rfl (hn _)
theorem tuple_fault_v {φ : Clo} {f : D → Bool} {d : D} {l m : Int} {st : Sto} (hd : D.val d = true) (h : ∀ xs, d = .tup xs → PureOn φ st f xs) :
    M_tuple_fault [φ] [d, .int l, .int m] st = .ok (tupF f l m d) st := by
  by_cases hx : ∃ xs, d = .tup xs
  · obtain ⟨xs, rfl⟩ := hx
    by_cases h1 : l ≤ (xs.length : Int)
    · by_cases h2 : (xs.length : Int) ≤ m
      · obtain ⟨u', v', e⟩ := tuple_fault_loopV (a := some (.tup xs)) (b := some (.int l)) (c := some (.int m)) xs 0 none none st (h xs rfl)
        have e3 : tupF f l m (.tup xs) = match tupF.fBad f 0 xs with
          | some i => .int (i : Nat)
          | none => .non := if_pos ⟨h1, h2⟩
        rw [e3]
        cases hb : tupF.fBad f 0 xs with
        | none =>
          rw [hb] at e
          simp [runDef, plains, startM, outR, sRet, sSeq, sIf, sAsg, sNext, sExpr, sRaise, sRetN, sAug, sPar, thenS, tN, cVar, cK, cOp, cIf, cAnd, cOr, cNot, cNotT, cNeg, cChain, cTup, cLst, cBi, cCall, cCallF, cCallP, cIsi,   aNil, aCons, afNil, afCons, afDef, afSlot, afLam, bVal, bTru, bAnd, bOr, bNot, R.bind, lift, isM, isNotM, isB, leM, ltM, geM, gtM, intM, subM, modM, divM, mulM, addM, ixM, truM, tyName, isiT, itemsOf, lenM, iaddM, isubM, min2M, max2M, eqM_int, neM_int, small_size, small_size2, M_tuple_fault, m_tuple_fault_b1, m_tuple_fault_b2, m_tuple_fault_b3, h1, h2, sFor, m_tuple_fault_for1_it, wArg, enumM, e]
        | some i =>
          rw [hb] at e
          simp [runDef, plains, startM, outR, sRet, sSeq, sIf, sAsg, sNext, sExpr, sRaise, sRetN, sAug, sPar, thenS, tN, cVar, cK, cOp, cIf, cAnd, cOr, cNot, cNotT, cNeg, cChain, cTup, cLst, cBi, cCall, cCallF, cCallP, cIsi,   aNil, aCons, afNil, afCons, afDef, afSlot, afLam, bVal, bTru, bAnd, bOr, bNot, R.bind, lift, isM, isNotM, isB, leM, ltM, geM, gtM, intM, subM, modM, divM, mulM, addM, ixM, truM, tyName, isiT, itemsOf, lenM, iaddM, isubM, min2M, max2M, eqM_int, neM_int, small_size, small_size2, M_tuple_fault, m_tuple_fault_b1, m_tuple_fault_b2, m_tuple_fault_b3, h1, h2, sFor, m_tuple_fault_for1_it, wArg, enumM, e]
      · simp [runDef, plains, startM, outR, sRet, sSeq, sIf, sAsg, sNext, sExpr, sRaise, sRetN, sAug, sPar, thenS, tN, cVar, cK, cOp, cIf, cAnd, cOr, cNot, cNotT, cNeg, cChain, cTup, cLst, cBi, cCall, cCallF, cCallP, cIsi,   aNil, aCons, afNil, afCons, afDef, afSlot, afLam, bVal, bTru, bAnd, bOr, bNot, R.bind, lift, isM, isNotM, isB, leM, ltM, geM, gtM, intM, subM, modM, divM, mulM, addM, ixM, truM, tyName, isiT, itemsOf, lenM, iaddM, isubM, min2M, max2M, eqM_int, neM_int, small_size, small_size2, M_tuple_fault, m_tuple_fault_b1, h1, h2, tupF]
    · simp [runDef, plains, startM, outR, sRet, sSeq, sIf, sAsg, sNext, sExpr, sRaise, sRetN, sAug, sPar, thenS, tN, cVar, cK, cOp, cIf, cAnd, cOr, cNot, cNotT, cNeg, cChain, cTup, cLst, cBi, cCall, cCallF, cCallP, cIsi,   aNil, aCons, afNil, afCons, afDef, afSlot, afLam, bVal, bTru, bAnd, bOr, bNot, R.bind, lift, isM, isNotM, isB, leM, ltM, geM, gtM, intM, subM, modM, divM, mulM, addM, ixM, truM, tyName, isiT, itemsOf, lenM, iaddM, isubM, min2M, max2M, eqM_int, neM_int, small_size, small_size2, M_tuple_fault, m_tuple_fault_b1, h1, tupF]
  · obtain ⟨n, hn, hi⟩ := isi_tup hd fun xs e => hx ⟨xs, e⟩
    have e : tupF f l m d = .int (-1) := by
      unfold tupF
      split
      · exact absurd ⟨_, rfl⟩ hx
      · rfl
    rw [e]
    have hn := hn st
    refine run_val (m := m_tuple_fault_b1 φ) (fs := [φ]) rfl ?_
    unfold m_tuple_fault_b1
    walk_at "st"
    walk_at "w"
theorem tuple_fits_v {φ : Clo} {f : D → Bool} {d : D} {l m : Int} {st : Sto} (hd : D.val d = true) (h : ∀ xs, d = .tup xs → PureOn φ st f xs) :
    M_tuple_fits [φ] [d, .int l, .int m] st = .ok (.bl (tupB f l m d)) st := by
  have e := tuple_fault_v (l := l) (m := m) hd h
  have hb : isB (tupF f l m d) .non = some (tupB f l m d) := by
    unfold tupF tupB
    split
    · rename_i xs
      by_cases h1 : l ≤ (xs.length : Int)
      · by_cases h2 : (xs.length : Int) ≤ m
        · rw [if_pos ⟨h1, h2⟩]
          cases hb : tupF.fBad f 0 xs with
          | none => simp [isB, h1, h2, fBad_all.mp hb]
          | some i =>
            have : xs.all f = false := by
              cases e : xs.all f
              · rfl
              · rw [fBad_all.mpr e] at hb
                cases hb
            simp [isB, h1, h2, this]
        · rw [if_neg (by omega)]
          simp [isB, h2]
      · rw [if_neg (by omega)]
        simp [isB, h1]
    · rfl
  refine run_val (m := m_tuple_fits_b1 φ) (fs := [φ]) rfl ?_
  unfold m_tuple_fits_b1
  walk_at "st"
  walk_at "w"
  exact O_is hb ⟨rfl, List.prefix_refl _⟩
theorem numbers_fit_v {d : D} (hd : D.val d = true) (l m g : Int) (st : Sto) : M_numbers_fit [] [d, .int l, .int m, .int g] st = .ok (.bl (tupB (btw 0 g) l m d)) st := by
  have e := tuple_fits_v (φ := lamM 1 0 [some (.int g)] m_numbers_fit_lam1) (f := btw 0 g) (d := d) (l := l) (m := m) (st := st) hd fun xs hx x hm => by
    have hv := D.val_tup.mp (hx ▸ hd) x hm
    have e := btw_v hv 0 g st
    refine lam_val rfl ?_
    unfold m_numbers_fit_lam1
    walk_at "w"
  refine run_val (m := m_numbers_fit_b1) rfl ?_
  unfold m_numbers_fit_b1
  walk_at "st"
  walk_at "w"
theorem is_pair_v {d : D} (hd : D.val d = true) (st : Sto) : M_is_pair [] [d] st = .ok (.bl (pairB d)) st := by
  refine run_val (m := m_is_pair_b1) rfl ?_
  unfold m_is_pair_b1
  walk_at "st"
  by_cases hx : ∃ xs, d = .tup xs
  · obtain ⟨xs, rfl⟩ := hx
    walk_at "w"
  · obtain ⟨n, hn, hi⟩ := isi_tup hd fun xs e => hx ⟨xs, e⟩
    have hn := hn st
    have e : pairB d = false := by
      unfold pairB
      split
      · exact absurd ⟨_, rfl⟩ hx
      · rfl
    rw [e]
    walk_at "w"
theorem pair_cases {d : D} (h : pairB d = true) : ∃ a b, d = .tup [a, b] := by
  unfold pairB at h
  split at h
  · rename_i xs
    have h := of_decide_eq_true h
    match xs, h with
    | [a, b], _ => exact ⟨a, b, rfl⟩
    | [], h => simp at h
    | [a], h => simp at h
    | a :: b :: c :: r, h => simp at h; omega
  · cases h

theorem minI_eq (a b : Int) : minI a b = if a ≤ b then a else b := by
  unfold minI
  by_cases h : a ≤ b
  · rw [if_pos h]
    split <;> omega
  · rw [if_neg h, if_pos (by omega)]
theorem maxI_eq (a b : Int) : maxI a b = if a ≤ b then b else a := by
  unfold maxI
  by_cases h : a ≤ b
  · rw [if_pos h]
    split <;> omega
  · rw [if_neg h, if_neg (by omega)]
theorem cut_to {α : Type} (xs : List α) (k : Nat) : Rg.cutD xs none (some (k : Int)) = xs.take k := by
  unfold Rg.cutD
  rw [HT.sIx_none, HT.sIx_nat, List.drop_zero, Nat.sub_zero]
  rcases Nat.le_total k xs.length with h | h
  · rw [Nat.min_eq_left h]
  · rw [Nat.min_eq_right h, List.take_length, List.take_of_length_le h]
theorem enumL_eq : ∀ (ts : List (List Int)) (k : Nat), enumL k (ts.map tapeD) = (ts.zipIdx k).map fun x => .wt [.int (x.2 : Nat), tapeD x.1]
  | [], _ => rfl
  | t :: ts, k => by
    have ih := enumL_eq ts (k + 1)
    simp [enumL, ih]
theorem cut_from {α : Type} (xs : List α) (k : Nat) : Rg.cutD xs (some (k : Int)) none = xs.drop k := by
  unfold Rg.cutD
  rw [HT.sIx_none, HT.sIx_nat]
  rcases Nat.le_total k xs.length with h | h
  · rw [Nat.min_eq_left h, List.take_of_length_le (by simp)]
  · rw [Nat.min_eq_right h, List.drop_of_length_le h]
    simp
theorem cLc_none {mi : MI} {own : List Nat} {tgt : T} {mt : B} {me : C} {ρ : En} {st : Sto} {items : List D} {lk : List (Nat × List D)} (hmi : mi ρ st = .ok ⟨items, lk⟩ st) (hlk : okW lk st) (hl : items.length ≤ sizeLine)
    (h : ∀ d ∈ items, ∀ (j : Sto), ∃ ρ1, tgt d (wipeM ρ own) (st ++ .lst [] :: j) = some (ρ1, st ++ .lst [] :: j) ∧ ∃ j2, mt ρ1 (st ++ .lst [] :: j) = .ok false (st ++ .lst [] :: j2)) :
    ∃ j, cLc mi own tgt mt me ρ st = .ok (.ref st.length) (st ++ .lst [] :: j) := by
  obtain ⟨acc', s', e, j, rfl, rfl⟩ := loopC_inv (ok := okW lk) (n0 := st.length) (tgt := tgt) (mt := mt) (me := me) (ρ0 := wipeM ρ own) (J := fun k acc s => ∃ j, s = st ++ .lst acc :: j ∧ acc = [])
    (fun k acc s ⟨j, e, _⟩ => ⟨fun p hp => by
      subst e
      have z := hlk p hp
      rw [List.getElem?_append_left (List.getElem?_eq_some_iff.mp z).1]
      exact z, by subst e; simp⟩) items 0 [] (st ++ [.lst []]) ⟨[], rfl, rfl⟩ (by simpa using hl) (fun i d acc s hi ⟨j, e, ea⟩ => by
      subst e ea
      obtain ⟨ρ1, h1, j2, h2⟩ := h d (List.mem_of_getElem? hi) j
      exact ⟨ρ1, _, false, _, h1, h2, .inr ⟨rfl, j2, rfl, rfl⟩⟩)
  refine ⟨j, ?_⟩
  unfold cLc
  simp [hmi, R.bind, e]
theorem eq_nil {a b : Nat} {s : Sto} (h1 : s[a]? = some (.lst [])) (h2 : s[b]? = some (.lst [])) : eqM (.ref a) (.ref b) s = some (.bl true, s) ∧ neM (.ref a) (.ref b) s = some (.bl false, s) := by
  unfold eqM neM eqB
  have e1 : toPy s 20 (.ref a) = some (.list []) := by simp [toPy, h1, allPy]
  have e2 : toPy s 20 (.ref b) = some (.list []) := by simp [toPy, h2, allPy]
  rw [e1, e2]
  exact ⟨rfl, rfl⟩
/-- an empty comprehension beside an empty list -/
theorem ne_lc {mi : MI} {own : List Nat} {tgt : T} {mt : B} {me : C} {ρ : En} {st : Sto} {j : Sto} (e : cLc mi own tgt mt me ρ st = .ok (.ref st.length) (st ++ .lst [] :: j)) :
    cOp neM (cLc mi own tgt mt me) (cLst aNil) ρ st = .ok (.bl false) (st ++ .lst [] :: (j ++ [.lst []])) ∧ cOp eqM (cLc mi own tgt mt me) (cLst aNil) ρ st = .ok (.bl true) (st ++ .lst [] :: (j ++ [.lst []])) := by
  have h := eq_nil (s := st ++ .lst [] :: (j ++ [.lst []])) (a := st.length) (b := st.length + (j.length + 1)) (by simp) (by rw [List.getElem?_append_right (by omega)]; simp)
  constructor
  · simp [runDef, plains, startM, outR, sRet, sSeq, sIf, sAsg, sNext, sExpr, sRaise, sRetN, sAug, sPar, thenS, tN, cVar, cK, cOp, cIf, cAnd, cOr, cNot, cNotT, cNeg, cChain, cTup, cLst, cBi, cCall, cCallF, cCallP, cIsi,   aNil, aCons, afNil, afCons, afDef, afSlot, afLam, bVal, bTru, bAnd, bOr, bNot, R.bind, lift, isM, isNotM, isB, leM, ltM, geM, gtM, intM, subM, modM, divM, mulM, addM, ixM, truM, tyName, isiT, itemsOf, lenM, iaddM, isubM, min2M, max2M, eqM_int, neM_int, small_size, small_size2, e, h.2]
  · simp [runDef, plains, startM, outR, sRet, sSeq, sIf, sAsg, sNext, sExpr, sRaise, sRetN, sAug, sPar, thenS, tN, cVar, cK, cOp, cIf, cAnd, cOr, cNot, cNotT, cNeg, cChain, cTup, cLst, cBi, cCall, cCallF, cCallP, cIsi,   aNil, aCons, afNil, afCons, afDef, afSlot, afLam, bVal, bTru, bAnd, bOr, bNot, R.bind, lift, isM, isNotM, isB, leM, ltM, geM, gtM, intM, subM, modM, divM, mulM, addM, ixM, truM, tyName, isiT, itemsOf, lenM, iaddM, isubM, min2M, max2M, eqM_int, neM_int, small_size, small_size2, e, h.1]

/-! the pool of draws -/
structure PoolSt (i j : Nat) (st : Sto) (a b : Int) (cells : List Int) : Prop where
  p : st[i]? = some (.lst [.int a, .int b, .ref j])
  c : st[j]? = some (.lst (ils cells))
  ne : i ≠ j
  a0 : 0 ≤ a
  b0 : 0 ≤ b
  b1 : b < 4294967296
def Pool (i j : Nat) (st : Sto) : Prop := ∃ a b cells, PoolSt i j st a b cells
structure Grow (i j : Nat) (st s : Sto) : Prop where
  len : st.length ≤ s.length
  same : ∀ n, n < st.length → n ≠ i → n ≠ j → s[n]? = st[n]?
section
variable {i j : Nat} {st s s2 : Sto} {a b : Int} {cells : List Int}
theorem Grow.refl : Grow i j st st := ⟨Nat.le_refl _, fun _ _ _ _ => rfl⟩
theorem Grow.trans (g : Grow i j st s) (h : Grow i j s s2) : Grow i j st s2 := ⟨Nat.le_trans g.len h.len, fun n hn h1 h2 => (h.same n (Nat.lt_of_lt_of_le hn g.len) h1 h2).trans (g.same n hn h1 h2)⟩
theorem Grow.app {x : Sto} : Grow i j st (st ++ x) := ⟨by simp, fun n hn _ _ => List.getElem?_append_left hn⟩
theorem Grow.seti {o : Ob} : Grow i j st (st.set i o) := ⟨by simp, fun n hn h1 _ => List.getElem?_set_ne (Ne.symm h1)⟩
theorem Grow.setj {o : Ob} : Grow i j st (st.set j o) := ⟨by simp, fun n hn _ h2 => List.getElem?_set_ne (Ne.symm h2)⟩
theorem Grow.at {n : Nat} {o : Ob} (g : Grow i j st s) (h : st[n]? = some o) (h1 : n ≠ i) (h2 : n ≠ j) : s[n]? = some o := (g.same n (List.getElem?_eq_some_iff.mp h).1 h1 h2).trans h
theorem PoolSt.li (h : PoolSt i j st a b cells) : i < st.length := (List.getElem?_eq_some_iff.mp h.p).1
theorem PoolSt.lj (h : PoolSt i j st a b cells) : j < st.length := (List.getElem?_eq_some_iff.mp h.c).1
theorem PoolSt.app {x : Sto} (h : PoolSt i j st a b cells) : PoolSt i j (st ++ x) a b cells := ⟨by rw [List.getElem?_append_left h.li]; exact h.p, by rw [List.getElem?_append_left h.lj]; exact h.c, h.ne, h.a0, h.b0, h.b1⟩
theorem PoolSt.set {a' b' : Int} (h : PoolSt i j st a b cells) (ha : 0 ≤ a') (hb : 0 ≤ b') (hb1 : b' < 4294967296) : PoolSt i j (st.set i (.lst [.int a', .int b', .ref j])) a' b' cells :=
  ⟨List.getElem?_set_self h.li, by rw [List.getElem?_set_ne h.ne]; exact h.c, h.ne, ha, hb, hb1⟩
theorem PoolSt.pop {cs : List Int} (h : PoolSt i j st a b cells) : PoolSt i j (st.set j (.lst (ils cs))) a b cs :=
  ⟨by rw [List.getElem?_set_ne (Ne.symm h.ne)]; exact h.p, List.getElem?_set_self h.lj, h.ne, h.a0, h.b0, h.b1⟩
theorem PoolSt.ix0 (h : PoolSt i j st a b cells) : ixM (.ref i) (.int 0) st = some (.int a, st) := by simp [ixM, h.p]
theorem PoolSt.ix1 (h : PoolSt i j st a b cells) : ixM (.ref i) (.int 1) st = some (.int b, st) := by simp [ixM, h.p]
theorem PoolSt.ix2 (h : PoolSt i j st a b cells) : ixM (.ref i) (.int 2) st = some (.ref j, st) := by simp [ixM, h.p]
theorem PoolSt.set0 (h : PoolSt i j st a b cells) (v : Int) : setM (.ref i) (.int 0) (.int v) st = some (st.set i (.lst [.int v, .int b, .ref j])) := by simp [setM, h.p, L2.ixN]
theorem PoolSt.set1 (h : PoolSt i j st a b cells) (v : Int) : setM (.ref i) (.int 1) (.int v) st = some (st.set i (.lst [.int a, .int v, .ref j])) := by simp [setM, h.p, L2.ixN]
theorem allPy_ils (st : Sto) (n : Nat) (ns : List Int) : allPy (toPy st (n + 1)) (ils ns) = some (ns.map PyData.int) := by
  induction ns with
  | nil => rfl
  | cons x r ih =>
    simp only [ils, List.map_cons, allPy] at ih ⊢
    rw [ih]
    simp [toPy]
theorem ints_shaped (ns : List Int) : SeqAt.shaped (.list (ns.map PyData.int)) = true := by
  have h1 : PyData.canLayAll0 (ns.map PyData.int) = true := by
    induction ns with
    | nil => simp [PyData.canLayAll0]
    | cons x r ih => simp [PyData.canLayAll0, PyData.canLay0, ih]
  have h2 : PyData.depthAll (ns.map PyData.int) = 0 := by
    induction ns with
    | nil => simp [PyData.depthAll]
    | cons x r ih => simp [PyData.canLayAll0] at h1; simp [PyData.depthAll, PyData.depth, ih h1.2]
  unfold SeqAt.shaped PyData.canLay0 PyData.depth
  simp [h1, h2]
theorem ne_cells {k : Nat} (hc : st[j]? = some (.lst (ils cells))) (hk : st[k]? = some (.lst [])) : neM (.ref j) (.ref k) st = some (.bl (!cells.isEmpty), st) := by
  have e1 : toPy st 20 (.ref j) = some (.list (cells.map PyData.int)) := by
    unfold toPy
    rw [hc]
    simp only
    rw [allPy_ils]
    rfl
  have e2 : toPy st 20 (.ref k) = some (.list []) := by simp [toPy, hk, allPy]
  unfold neM eqB
  rw [e1, e2]
  have e3 := ints_shaped cells
  have e4 : SeqAt.shaped (.list []) = true := ints_shaped []
  simp only [e3, e4, Bool.and_self, if_true, Option.map_some]
  cases cells <;> simp [PyData.eqv, PyData.eqvAll]
end

theorem gcR_flat {st s : Sto} {d : D} (h : d.flat = true) : gcR st (.ok d s) = .ok d st ∨ gcR st (.ok d s) = .ok d s := by
  unfold gcR gcD
  simp only
  split
  · left
    simp [D.flat_under h]
  · right
    rfl
section
variable {i j : Nat} {st s : Sto} {a b many : Int} {cells : List Int}
theorem draw_b4 (h : PoolSt i j s a b cells) (hm : 1 ≤ many) (u2 u3 u4 : Option D) : ∃ r : Int, m__law_draw_b4 [some (.ref i), some (.int many), u2, u3, u4] s = .rt (.int r) s ∧ 0 ≤ r ∧ r < many := by
  have x1 := h.ix1
  have hb : small64b b = true := by
    unfold small64b
    have := h.b0
    have := h.b1
    simp
    omega
  have hm2 : 0 < many := by omega
  have hx : (if (small64b b || small64b b) = true then some (D.int (b * b), s) else none) = some (D.int (b * b), s) := by rw [hb]; rfl
  refine ⟨(b * b % 2147483629) / 32 % many, ?_, Int.emod_nonneg _ (by omega), Int.emod_lt_of_pos _ hm2⟩
  simp [m__law_draw_b4, sRet, thenS, cOp, cBi, cVar, cK, aCons, aNil, R.bind, lift, x1, mulM, toIntM, modM, divM, intM, hb, hm2]
theorem draw_b3 (h : PoolSt i j s a b cells) (hm : 1 ≤ many) (u2 u3 u4 : Option D) : ∃ (r : Int) (s' : Sto), m__law_draw_b3 [some (.ref i), some (.int many), u2, u3, u4] s = .rt (.int r) s' ∧ 0 ≤ r ∧ r < many ∧ Pool i j s' ∧ Grow i j s s' := by
  have x1 := h.ix1
  have hp := h.set (a' := a) (b' := (b * 48271 + 11) % 2147483647) h.a0 (Int.emod_nonneg _ (by omega)) (by have := Int.emod_lt_of_pos (b * 48271 + 11) (b := 2147483647) (by omega); omega)
  obtain ⟨r, e, h1, h2⟩ := draw_b4 hp hm u2 u3 u4
  refine ⟨r, _, ?_, h1, h2, ⟨_, _, _, hp⟩, Grow.seti⟩
  rw [← e]
  have hs := h.set1 ((b * 48271 + 11) % 2147483647)
  have hc : small64b 48271 = true := by decide
  simp [m__law_draw_b3, sSeq, sAsg, tS, thenS, cOp, cBi, cVar, cK, aCons, aNil, R.bind, lift, x1, mulM, addM, toIntM, modM, intM, hc, hs]
theorem draw_b2 (h : PoolSt i j s a b cells) (hm : 1 ≤ many) (hz : many < 18446744073709551616) (u2 u3 : Option D) : ∃ (r : Int) (s' : Sto), m__law_draw_b2 [some (.ref i), some (.int many), u2, u3, none] s = .rt (.int r) s' ∧ 0 ≤ r ∧ r < many ∧ Pool i j s' ∧ Grow i j s s' := by
  have x0 := h.ix0
  have hm2 : 0 < many := by omega
  by_cases ha : 0 < a
  · have hp := h.set (a' := a / many) (b' := b) (Int.ediv_nonneg h.a0 (by omega)) h.b0 h.b1
    have hs := h.set0 (a / many)
    refine ⟨a % many, _, ?_, Int.emod_nonneg _ (by omega), Int.emod_lt_of_pos _ hm2, ⟨_, _, _, hp⟩, Grow.seti⟩
    simp [m__law_draw_b2, sSeq, sIf, sAsg, sRet, tS, tN, thenS, bVal, cOp, cBi, cVar, cK, aCons, aNil, R.bind, lift, x0, toIntM, modM, divM, gtM, intM, ha, hm2, hz, hs]
  · obtain ⟨r, s', e, q⟩ := draw_b3 h hm u2 u3 none
    refine ⟨r, s', ?_, q⟩
    rw [← e]
    simp [m__law_draw_b2, sSeq, sIf, sNext, thenS, bVal, cOp, cVar, cK, R.bind, lift, x0, gtM, intM, ha]
theorem draw_b1 (h : PoolSt i j st a b cells) (hm : 1 ≤ many) (hz : many < 18446744073709551616) : ∃ (r : Int) (s' : Sto), m__law_draw_b1 [some (.ref i), some (.int many), none, none, none] st = .rt (.int r) s' ∧ 0 ≤ r ∧ r < many ∧ Pool i j s' ∧ Grow i j st s' := by
  have x0 := h.ix0
  by_cases ha : a = 0
  · subst ha
    have h1 := h.app (x := [.lst []])
    have x2 := h.ix2
    have hn := ne_cells (k := st.length) h1.c (by simp)
    cases cells with
    | nil =>
      obtain ⟨r, s', e, q1, q2, q3, q4⟩ := draw_b2 h1 hm hz none none
      refine ⟨r, s', ?_, q1, q2, q3, Grow.app.trans q4⟩
      rw [← e]
      simp [m__law_draw_b1, sSeq, sIf, sNext, thenS, bAnd, bVal, cOp, cLst, cVar, cK, aNil, R.bind, lift, x0, x2, eqM_int, hn]
    | cons c cs =>
      have h2 := h1.pop (cs := cs)
      have p18 : ∀ s, powM (.int 10) (.int 18) s = some (.int 1000000000000000000, s) := fun s => rfl
      have pp : ∀ c : Int, popAtM (ils (c :: cs)) [.int 0] = some (.int c, ils cs) := fun c => by simp [popAtM, ils, seqIndex?]
      have m2 : ∀ (x : Int) s, mulM (.int 2) (.int x) s = some (.int (2 * x), s) := fun x s => by
        have : small64b 2 = true := by decide
        simp [mulM, this]
      have m7 : ∀ (x : Int) s, mulM (.int x) (.int 69621) s = some (.int (x * 69621), s) := fun x s => by
        have : small64b 69621 = true := by decide
        simp [mulM, this]
      have hc1 := h1.c
      generalize hz0 : (if 0 ≤ c then 2 * c else -1 - 2 * c) = z
      have z0 : 0 ≤ z := by rw [← hz0]; split <;> omega
      generalize ha0 : (if 1000000000000000000 ≤ z then z else 0) = a'
      have a0 : 0 ≤ a' := by rw [← ha0]; split <;> omega
      have g0 := h2.set0 a'
      have h3 := h2.set (a' := a') (b' := b) a0 h.b0 h.b1
      have y1 := h3.ix1
      have b0 : 0 ≤ (b + z * 69621) % 2147483629 + 3 := by have := Int.emod_nonneg (b + z * 69621) (b := 2147483629) (by omega); omega
      have b1 : (b + z * 69621) % 2147483629 + 3 < 4294967296 := by have := Int.emod_lt_of_pos (b + z * 69621) (b := 2147483629) (by omega); omega
      have g1 := h3.set1 ((b + z * 69621) % 2147483629 + 3)
      have h4 := h3.set (a' := a') (b' := (b + z * 69621) % 2147483629 + 3) a0 b0 b1
      obtain ⟨r, s', e, q1, q2, q3, q4⟩ := draw_b2 h4 hm hz (some (.int c)) (some (.int z))
      refine ⟨r, s', ?_, q1, q2, q3, (((Grow.app.trans Grow.setj).trans Grow.seti).trans Grow.seti).trans q4⟩
      rw [← e]
      have zc : ∀ s, cIf (bVal (cOp geM (cVar 2) (cK (.int 0)))) (cOp mulM (cK (.int 2)) (cVar 2)) (cOp subM (cNeg (cK (.int 1))) (cOp mulM (cK (.int 2)) (cVar 2))) [some (.ref i), some (.int many), some (.int c), none, none] s = .ok (.int z) s := fun s => by
        rw [← hz0]
        by_cases hc : 0 ≤ c
        · simp [cIf, bVal, cOp, cVar, cK, cNeg, R.bind, lift, geM, subM, intM, m2, hc]
        · simp [cIf, bVal, cOp, cVar, cK, cNeg, R.bind, lift, geM, subM, intM, m2, hc]
      have ac : ∀ s, cIf (bVal (cOp geM (cVar 3) (cOp powM (cK (.int 10)) (cK (.int 18))))) (cVar 3) (cK (.int 0)) [some (.ref i), some (.int many), some (.int c), some (.int z), none] s = .ok (.int a') s := fun s => by
        rw [← ha0]
        by_cases hc : 1000000000000000000 ≤ z
        · simp [cIf, bVal, cOp, cVar, cK, R.bind, lift, geM, intM, p18, hc]
        · simp [cIf, bVal, cOp, cVar, cK, R.bind, lift, geM, intM, p18, hc]
      have pc := pp c
      have two : cBi toIntM (aCons (cMethL popAtM (cOp ixM (cVar 0) (cK (.int 2))) (aCons (cK (.int 0)) aNil)) aNil) [some (.ref i), some (.int many), none, none, none] (st ++ [Ob.lst []]) = .ok (.int c) ((st ++ [Ob.lst []]).set j (Ob.lst (ils cs))) := by
        have y2 := h1.ix2
        simp only [cBi, cMethL, cOp, cVar, cK, aCons, aNil, R.bind, lift, List.getElem?_cons_zero, y2, hc1, pc]
        rfl
      generalize hX : cBi toIntM (aCons (cMethL popAtM (cOp ixM (cVar 0) (cK (.int 2))) (aCons (cK (.int 0)) aNil)) aNil) = X at two
      generalize hY : cIf (bVal (cOp geM (cVar 2) (cK (.int 0)))) (cOp mulM (cK (.int 2)) (cVar 2)) (cOp subM (cNeg (cK (.int 1))) (cOp mulM (cK (.int 2)) (cVar 2))) = Y at zc
      generalize hZ : cIf (bVal (cOp geM (cVar 3) (cOp powM (cK (.int 10)) (cK (.int 18))))) (cVar 3) (cK (.int 0)) = Z at ac
      unfold m__law_draw_b1
      rw [hX, hY, hZ]
      simp [sSeq, sIf, sAsg, tS, tN, thenS, bAnd, bVal, cOp, cBi, cLst, cVar, cK, aCons, aNil, R.bind, lift, x0, x2, eqM_int, hn, two, zc, ac, g0, y1, m7, addM, modM, intM, toIntM, g1]
  · obtain ⟨r, s', e, q⟩ := draw_b2 h hm hz none none
    refine ⟨r, s', ?_, q⟩
    rw [← e]
    simp [m__law_draw_b1, sSeq, sIf, sNext, thenS, bAnd, bVal, cOp, cVar, cK, R.bind, lift, x0, eqM_int, ha]
theorem draw_eq (h : Pool i j st) (hm : 1 ≤ many) (hz : many < 18446744073709551616) : ∃ (r : Int) (s' : Sto), M__law_draw [] [.ref i, .int many] st = .ok (.int r) s' ∧ 0 ≤ r ∧ r < many ∧ Pool i j s' ∧ Grow i j st s' := by
  have h0 := h
  obtain ⟨a, b, cells, h⟩ := h
  obtain ⟨r, s', e, q1, q2, q3, q4⟩ := draw_b1 h hm hz
  have run : M__law_draw [] [.ref i, .int many] st = gcR st (.ok (.int r) s') := by
    show gcR st (outR (m__law_draw_b1 [some (.ref i), some (.int many), none, none, none] st)) = _
    rw [e]
    rfl
  rcases gcR_flat (st := st) (s := s') (d := .int r) rfl with g | g
  · exact ⟨r, st, run.trans g, q1, q2, h0, Grow.refl⟩
  · exact ⟨r, s', run.trans g, q1, q2, q3, q4⟩
end

section
variable {i j : Nat} {st s : Sto}
theorem Pool.li (h : Pool i j st) : i < st.length := by obtain ⟨a, b, c, h⟩ := h; exact h.li
theorem Pool.lj (h : Pool i j st) : j < st.length := by obtain ⟨a, b, c, h⟩ := h; exact h.lj
theorem Pool.app {x : Sto} (h : Pool i j st) : Pool i j (st ++ x) := by obtain ⟨a, b, c, h⟩ := h; exact ⟨a, b, c, h.app⟩
theorem Pool.other {n : Nat} {o : Ob} (h : Pool i j st) (h1 : n ≠ i) (h2 : n ≠ j) : Pool i j (st.set n o) := by
  obtain ⟨a, b, c, h⟩ := h
  exact ⟨a, b, c, by rw [List.getElem?_set_ne h1]; exact h.p, by rw [List.getElem?_set_ne h2]; exact h.c, h.ne, h.a0, h.b0, h.b1⟩
theorem Grow.setn {n : Nat} {o : Ob} (g : Grow i j st s) (h : st.length ≤ n) : Grow i j st (s.set n o) := ⟨by rw [List.length_set]; exact g.len, fun k hk h1 h2 => by rw [List.getElem?_set_ne (by omega)]; exact g.same k hk h1 h2⟩
/-- what a def gives that draws -/
theorem run_pool {mask : List Bool} {n : Nat} {m : S} {fs : List Clo} {ds : List D} {P : D → Prop} (h0 : Pool i j st) (h : ∃ d s', m (startM mask ds n) st = .rt d s' ∧ P d ∧ d.flat = true ∧ Pool i j s' ∧ Grow i j st s') (hl : ds.length = plains mask := by rfl) :
    ∃ d s', runDef mask n (fun _ => m) fs ds st = .ok d s' ∧ P d ∧ d.flat = true ∧ Pool i j s' ∧ Grow i j st s' := by
  obtain ⟨d, s', e, q1, q2, q3, q4⟩ := h
  have run : runDef mask n (fun _ => m) fs ds st = gcR st (.ok d s') := by
    unfold runDef
    rw [if_pos hl]
    simp only [e]
    rfl
  rcases gcR_flat (st := st) (s := s') q2 with g | g
  · exact ⟨d, st, run.trans g, q1, q2, h0, Grow.refl⟩
  · exact ⟨d, s', run.trans g, q1, q2, q3, q4⟩
/-- a comprehension that draws -/
theorem cLc_pool {st0 : Sto} {mi : MI} {own : List Nat} {tgt : T} {mt : B} {me : C} {ρ : En} {items : List D} {lk : List (Nat × List D)} {P : D → Prop} (h0 : Pool i j st) (hmi : mi ρ st0 = .ok ⟨items, lk⟩ st) (hlk : lk = []) (hl : items.length ≤ sizeLine)
    (h : ∀ (k : Nat) (d : D), items[k]? = some d → ∀ s, Pool i j s → Grow i j st s → ∃ ρ1, tgt d (wipeM ρ own) s = some (ρ1, s) ∧ mt ρ1 s = .ok true s ∧ ∃ x s3, me ρ1 s = .ok x s3 ∧ P x ∧ Pool i j s3 ∧ Grow i j s s3) :
    ∃ xs s', cLc mi own tgt mt me ρ st0 = .ok (.ref st.length) s' ∧ s'[st.length]? = some (.lst xs) ∧ xs.length = items.length ∧ (∀ x ∈ xs, P x) ∧ Pool i j s' ∧ Grow i j st s' := by
  subst hlk
  have li := h0.li
  have lj := h0.lj
  obtain ⟨acc, s', e, q1, q2, q3, q4, q5⟩ := loopC_inv (ok := okW []) (n0 := st.length) (tgt := tgt) (mt := mt) (me := me) (ρ0 := wipeM ρ own) (J := fun k acc s => acc.length = k ∧ (∀ x ∈ acc, P x) ∧ Pool i j s ∧ Grow i j st s ∧ s[st.length]? = some (.lst acc))
    (fun k acc s ⟨_, _, _, _, e⟩ => ⟨okW_nil, e⟩) items 0 [] (st ++ [.lst []]) ⟨rfl, (fun _ h => by cases h), h0.app, Grow.app, by simp⟩ (by simpa using hl) (fun k d acc s hi ⟨q1, q2, q3, q4, q5⟩ => by
      obtain ⟨ρ1, h1, h2, x, s3, h3, hp, p3, g3⟩ := h k d hi s q3 q4
      refine ⟨ρ1, s, true, s, h1, h2, .inl ⟨rfl, x, s3, h3, g3.at q5 (by omega) (by omega), by simp [q1], fun y hy => ?_, p3.other (by omega) (by omega), (q4.trans g3).setn (Nat.le_refl _), ?_⟩⟩
      · rcases List.mem_append.mp hy with z | z
        · exact q2 y z
        · rw [List.mem_singleton.mp z]
          exact hp
      · exact List.getElem?_set_self (List.getElem?_eq_some_iff.mp (g3.at q5 (by omega) (by omega))).1)
  refine ⟨acc, s', ?_, q5, by rw [q1, Nat.zero_add], q2, q3, q4⟩
  unfold cLc
  simp [hmi, R.bind, e]
theorem tup_pool {mi : MI} {own : List Nat} {tgt : T} {mt : B} {me : C} {ρ : En} {s' : Sto} {xs : List D} {n : Nat} (e : cLc mi own tgt mt me ρ st = .ok (.ref n) s') (h : s'[n]? = some (.lst xs)) :
    cBi tupleM (aCons (cLc mi own tgt mt me) aNil) ρ st = .ok (.tup xs) s' := by
  simp [cBi, aCons, aNil, R.bind, lift, e, tupleM, itemsOf, h]
/-- a thing of a list, by chance -/
theorem pick_eq {l : Nat} {xs : List D} (h0 : Pool i j st) (hx : st[l]? = some (.lst xs)) (h1 : l ≠ i) (h2 : l ≠ j) (hn : xs ≠ []) (hz : xs.length ≤ 1000) (hf : ∀ x ∈ xs, x.flat = true) :
    ∃ x s', M__law_pick [] [.ref i, .ref l] st = .ok x s' ∧ x ∈ xs ∧ x.flat = true ∧ Pool i j s' ∧ Grow i j st s' := by
  have hl : 1 ≤ xs.length := List.length_pos_iff.mpr hn
  obtain ⟨r, s', e, r0, r1, p, g⟩ := draw_eq (many := (xs.length : Nat)) h0 (by omega) (by omega)
  obtain ⟨k, rfl⟩ := Int.eq_ofNat_of_zero_le r0
  have hk : k < xs.length := by omega
  have hx2 := g.at hx h1 h2
  have ha : atI xs (k : Nat) = some xs[k] := atI_nat (List.getElem?_eq_getElem hk)
  refine run_pool (m := m__law_pick_b1) h0 ⟨xs[k], s', ?_, List.getElem_mem _, hf _ (List.getElem_mem _), p, g⟩
  simp [m__law_pick_b1, startM, sRet, thenS, cOp, cVar, cCall, cBi, aCons, aNil, R.bind, lift, lenM, itemsOf, hx, e, ixM, hx2, ha]
theorem bound_eq (h0 : Pool i j st) : ∃ x s', M__law_bound [] [.ref i] st = .ok x s' ∧ (∃ a : Option Int, x = bd a ∧ bdOk a = true) ∧ x.flat = true ∧ Pool i j s' ∧ Grow i j st s' := by
  have li := h0.li
  have lj := h0.lj
  obtain ⟨x, s', e, hx, hf, p, g⟩ := pick_eq (l := st.length) (xs := [.int 0, .int 0, .int 0, .int 1, .int 1, .int 2, .int 3, .non]) (h0.app (x := [.lst [.int 0, .int 0, .int 0, .int 1, .int 1, .int 2, .int 3, .non]])) (by simp) (by omega) (by omega) (by simp) (by simp) (by
    intro x hx
    simp at hx
    rcases hx with rfl | rfl | rfl | rfl | rfl <;> rfl)
  refine run_pool (m := m__law_bound_b1) h0 ⟨x, s', ?_, ?_, hf, p, Grow.app.trans g⟩
  · simp [m__law_bound_b1, startM, sRet, thenS, cVar, cK, cCall, cLst, aCons, aNil, R.bind, small_size, e]
  · simp at hx
    rcases hx with rfl | rfl | rfl | rfl | rfl
    · exact ⟨some 0, rfl, rfl⟩
    · exact ⟨some 1, rfl, rfl⟩
    · exact ⟨some 2, rfl, rfl⟩
    · exact ⟨some 3, rfl, rfl⟩
    · exact ⟨none, rfl, rfl⟩
end

theorem list_choose {α : Type} {g : α → D} {Q : α → Prop} : ∀ {xs : List D}, (∀ x ∈ xs, ∃ a, x = g a ∧ Q a) → ∃ as : List α, xs = as.map g ∧ ∀ a ∈ as, Q a
  | [], _ => ⟨[], rfl, fun _ h => by cases h⟩
  | x :: xs, h => by
    obtain ⟨a, rfl, qa⟩ := h x List.mem_cons_self
    obtain ⟨as, rfl, qs⟩ := list_choose (g := g) (Q := Q) (xs := xs) fun y hy => h y (List.mem_cons_of_mem _ hy)
    refine ⟨a :: as, rfl, fun b hb => ?_⟩
    rcases List.mem_cons.mp hb with rfl | hb
    · exact qa
    · exact qs b hb
theorem rangeL_len (lo : Int) (n : Nat) : (rangeL lo n).length = n := by simp [rangeL]
theorem rangeL_at {lo : Int} {n k : Nat} {d : D} (h : (rangeL lo n)[k]? = some d) : k < n ∧ d = .int (lo + (k : Nat)) := by
  have hk : k < n := by
    have := (List.getElem?_eq_some_iff.mp h).1
    rwa [rangeL_len] at this
  unfold rangeL at h
  rw [List.getElem?_map, List.getElem?_range hk] at h
  simp at h
  exact ⟨hk, h.symm⟩
theorem rng1 {n : Int} {s : Sto} (h : 0 ≤ n) (hz : n ≤ 100000) : rangeM1 [.int n] s = some (⟨rangeL 0 n.toNat, []⟩, s) := by
  have : in62 n = true := by unfold in62; simp; omega
  simp [rangeM1, this]
def okF (f : Fate) : Prop := bdOk f.1 = true ∧ bdOk f.2 = true
def FateP (x : D) : Prop := ∃ f : Fate, x = fateD f ∧ okF f
def RowP (many : Nat) (x : D) : Prop := ∃ r : List Fate, x = rowD r ∧ r.length = many ∧ ∀ f ∈ r, okF f
theorem bd_flat (a : Option Int) : (bd a).flat = true := by cases a <;> rfl
theorem fate_flat (f : Fate) : (fateD f).flat = true := by simp [fateD, D.flat, D.flats, bd_flat]
theorem row_flat (r : List Fate) : (rowD r).flat = true := by
  unfold rowD D.flat
  induction r with
  | nil => rfl
  | cons f r ih => simp [D.flats, fate_flat, ih]
theorem book_flat (b : List (List Fate)) : (bookD b).flat = true := by
  unfold bookD D.flat
  induction b with
  | nil => rfl
  | cons f r ih => simp [D.flats, row_flat, ih]
theorem row_of {xs : List D} {n : Nat} (hl : xs.length = n) (h : ∀ x ∈ xs, FateP x) : RowP n (.tup xs) := by
  obtain ⟨as, rfl, q⟩ := list_choose h
  exact ⟨as, rfl, by simpa using hl, q⟩
section
variable {i j : Nat} {st s : Sto} {many : Nat}
/-- two bounds -/
theorem two_bounds {ρ : En} (hρ : ρ[0]? = some (some (.ref i))) (h : Pool i j s) : ∃ x s3, cTup (aCons (cCall 1 M__law_bound (aCons (cVar 0) aNil)) (aCons (cCall 1 M__law_bound (aCons (cVar 0) aNil)) aNil)) ρ s = .ok x s3 ∧ FateP x ∧ Pool i j s3 ∧ Grow i j s s3 := by
  obtain ⟨x, s1, e1, ⟨a, rfl, ha⟩, _, p1, g1⟩ := bound_eq h
  obtain ⟨y, s2, e2, ⟨b, rfl, hb⟩, _, p2, g2⟩ := bound_eq p1
  refine ⟨fateD (a, b), s2, ?_, ⟨(a, b), rfl, ha, hb⟩, p2, g1.trans g2⟩
  simp [cTup, cCall, cVar, aCons, aNil, R.bind, hρ, e1, e2, small_size, fateD]
theorem rngN {s : Sto} (hz : many ≤ 1000) : rangeM1 [.int many] s = some (⟨rangeL 0 many, []⟩, s) := by
  have h := rng1 (n := (many : Int)) (s := s) (by omega) (by omega)
  rw [Int.toNat_natCast] at h
  exact h
theorem bind_ok {α β : Type} {a : α} {s : Sto} {f : α → Sto → Rg.R β} : (Rg.R.ok a s).bind f = f a s := rfl
theorem lift_some {α : Type} {a : α} {s : Sto} : Rg.lift (some (a, s)) = .ok a s := rfl
section
variable {ρ ρ1 : En} {st s s1 s2 s3 : Sto} {d x y z : D} {a b m : C} {A B : S}
theorem seq_rt (h : A ρ st = .rt d s) : sSeq A B ρ st = .rt d s := by unfold sSeq; rw [h]
theorem seq_nx (h : A ρ st = .nx ρ1 s1) : sSeq A B ρ st = B ρ1 s1 := by unfold sSeq; rw [h]
theorem if_t {t : Rg.B} (h : t ρ st = .ok true s) : sIf t A B ρ st = A ρ s := by unfold sIf; rw [h]; rfl
theorem if_f {t : Rg.B} (h : t ρ st = .ok false s) : sIf t A B ρ st = B ρ s := by unfold sIf; rw [h]; rfl
theorem ret_ok (h : m ρ st = .ok d s) : sRet m ρ st = .rt d s := by unfold sRet; rw [h]; rfl
theorem asg_ok {g : T} (h : m ρ st = .ok d s) (hg : g d ρ s = some (ρ1, s1)) : sAsg m g ρ st = .nx ρ1 s1 := by unfold sAsg; rw [h]; simp only [thenS, hg]
theorem op_ok {f : D → D → Sto → Option (D × Sto)} (ha : a ρ st = .ok x s1) (hb : b ρ s1 = .ok y s2) (hf : f x y s2 = some (z, s3)) : cOp f a b ρ st = .ok z s3 := by unfold cOp; rw [ha, bind_ok, hb, bind_ok, hf, lift_some]
theorem val_ok {v : Bool} (h : m ρ st = .ok (.bl v) s) : bVal m ρ st = .ok v s := by unfold bVal; rw [h, bind_ok]
theorem args2 (ha : a ρ st = .ok x s1) (hb : b ρ s1 = .ok y s2) : aCons a (aCons b aNil) ρ st = .ok [x, y] s2 := by unfold aCons aNil; rw [ha, bind_ok, hb]; rfl
theorem call_ok {n : Nat} {M : List Clo → Clo} {r : AL} {ds : List D} (ha : r ρ st = .ok ds s1) (hn : ds.length = n) (hM : M [] ds s1 = .ok z s2) : cCall n M r ρ st = .ok z s2 := by unfold cCall; rw [ha, bind_ok, if_pos hn, hM]
end
theorem it_rng {r : AL} {ρ : En} {s s' : Sto} (h : r ρ s = .ok [.int many] s') (hz : many ≤ 1000) : wArg rangeM1 r ρ s = .ok ⟨rangeL 0 many, []⟩ s' := by
  have e : wArg rangeM1 r ρ s = Rg.lift (rangeM1 [.int many] s') := by
    unfold wArg
    rw [h, bind_ok]
  rw [e, rngN hz, lift_some]
theorem rows_tup {xs : List D} (hl : xs.length = many) (h : ∀ x ∈ xs, FateP x) : RowP many (.tup xs) ∧ (D.tup xs).flat = true := by
  have z := row_of hl h
  refine ⟨z, ?_⟩
  obtain ⟨r, e, _⟩ := z
  rw [e]
  exact row_flat r
theorem draw_s (many : Nat) (h0 : Pool i j st) (hm : 1 ≤ many := by decide) (hz : many ≤ 100000 := by decide) : ∃ (r : Int) (s' : Sto), M__law_draw [] [.ref i, .int many] st = .ok (.int r) s' ∧ 0 ≤ r ∧ r < many ∧ Pool i j s' ∧ Grow i j st s' := draw_eq h0 (by omega) (by omega)
theorem row_lc1 (h0 : Pool i j st) (hz : many ≤ 8) : ∃ xs s', cBi tupleM (aCons (cLc m__law_row_lc1_it [3] (tN 3) bYes m__law_row_lc1_elt) aNil) [some (.ref i), some (.int many), none, none, none] st = .ok (.tup xs) s' ∧ RowP many (.tup xs) ∧ (D.tup xs).flat = true ∧ Pool i j s' ∧ Grow i j st s' := by
  obtain ⟨xs, s', e, q1, q2, q3, q4, q5⟩ := cLc_pool (mi := m__law_row_lc1_it) (own := [3]) (tgt := tN 3) (mt := bYes) (me := m__law_row_lc1_elt) (ρ := [some (.ref i), some (.int many), none, none, none]) (items := rangeL 0 many) (lk := []) (P := FateP) h0
      (it_rng rfl (by omega)) rfl (small_size (by rw [rangeL_len]; omega)) (fun k d hd s p g => by
        refine ⟨[some (.ref i), some (.int many), none, some d, none], rfl, rfl, ?_⟩
        unfold m__law_row_lc1_elt
        exact two_bounds rfl p)
  have z := rows_tup (by rw [q2, rangeL_len]) q3
  exact ⟨xs, s', tup_pool e q1, z.1, z.2, q4, q5⟩
theorem one_draw {k many : Nat} {ρ : En} {a : C} (hρ : ρ[0]? = some (some (.ref i))) (ha : ∀ s, a ρ s = .ok (.int many) s) (h0 : Pool i j st) (hm : 1 ≤ many) (hz : many ≤ 100000) :
    ∃ (r : Nat) (s' : Sto), cOp addM (cK (.int 1)) (cCall 2 M__law_draw (aCons (cVar 0) (aCons a aNil))) ρ st = .ok (.int (1 + r : Nat)) s' ∧ r < many ∧ Pool i j s' ∧ Grow i j st s' := by
  obtain ⟨r, s', e, r0, r1, p, g⟩ := draw_s many h0 hm hz
  obtain ⟨k, rfl⟩ := Int.eq_ofNat_of_zero_le r0
  refine ⟨k, s', ?_, by omega, p, g⟩
  simp [cOp, cK, cCall, cVar, aCons, aNil, R.bind, lift, hρ, ha, e, addM]
theorem row_lc2 (h0 : Pool i j st) (hm : 1 ≤ many) (hz : many ≤ 8) : ∃ xs n s', cLc m__law_row_lc2_it [4] (tN 4) bYes m__law_row_lc2_elt [some (.ref i), some (.int many), none, none, none] st = .ok (.ref n) s' ∧ s'[n]? = some (.lst xs) ∧ (∀ x ∈ xs, flatD x = true) ∧ n ≠ i ∧ n ≠ j ∧ Pool i j s' ∧ Grow i j st s' := by
  obtain ⟨r, s1, e1, r1, p1, g1⟩ := one_draw (k := 0) (many := 2) (ρ := [some (.ref i), some (.int many), none, none, none]) (a := cK (.int 2)) rfl (fun _ => rfl) h0 (by omega) (by omega)
  have li := p1.li
  have lj := p1.lj
  obtain ⟨xs, s', e, q1, q2, q3, q4, q5⟩ := cLc_pool (st0 := st) (mi := m__law_row_lc2_it) (own := [4]) (tgt := tN 4) (mt := bYes) (me := m__law_row_lc2_elt) (ρ := [some (.ref i), some (.int many), none, none, none]) (items := rangeL 0 (1 + r)) (lk := []) (P := fun x => flatD x = true) p1
      (it_rng (by
        have e2 := e1
        generalize hX : cOp addM (cK (.int 1)) (cCall 2 M__law_draw (aCons (cVar 0) (aCons (cK (.int 2)) aNil))) = X at e2 ⊢
        unfold aCons
        rw [e2]
        rfl) (by omega)) rfl (small_size (by rw [rangeL_len]; omega)) (fun k d hd s p g => by
        obtain ⟨r, s3, e3, _, _, p3, g3⟩ := draw_s many p hm (by omega)
        refine ⟨[some (.ref i), some (.int many), none, none, some d], rfl, rfl, .int r, s3, ?_, rfl, p3, g3⟩
        simp [m__law_row_lc2_elt, cCall, cVar, aCons, aNil, R.bind, e3])
  exact ⟨xs, _, s', e, q1, q3, by omega, by omega, q4, g1.trans q5⟩
theorem row_lc3 {n : Nat} {ys : List D} (h0 : Pool i j st) (hz : many ≤ 8) (hn : st[n]? = some (.lst ys)) (hy : ∀ x ∈ ys, flatD x = true) (ni : n ≠ i) (nj : n ≠ j) : ∃ xs s', cBi tupleM (aCons (cLc m__law_row_lc3_it [3] (tN 3) bYes m__law_row_lc3_elt) aNil) [some (.ref i), some (.int many), some (.ref n), none, none] st = .ok (.tup xs) s' ∧ RowP many (.tup xs) ∧ (D.tup xs).flat = true ∧ Pool i j s' ∧ Grow i j st s' := by
  obtain ⟨xs, s', e, q1, q2, q3, q4, q5⟩ := cLc_pool (st0 := st) (mi := m__law_row_lc3_it) (own := [3]) (tgt := tN 3) (mt := bYes) (me := m__law_row_lc3_elt) (ρ := [some (.ref i), some (.int many), some (.ref n), none, none]) (items := rangeL 0 many) (lk := []) (P := FateP) h0
      (it_rng rfl (by omega)) rfl (small_size (by rw [rangeL_len]; omega)) (fun k d hd s p g => by
        obtain ⟨_, rfl⟩ := rangeL_at hd
        clear hd
        generalize (0 + ((k : Nat) : Int)) = z
        refine ⟨[some (.ref i), some (.int many), some (.ref n), some (.int z), none], rfl, rfl, ?_⟩
        have hs := g.at hn ni nj
        obtain ⟨b, hb⟩ : ∃ b, inM (.int z) (.ref n) s = some (.bl b, s) := by
          refine ⟨ys.any fun y => eqF y (.int z), ?_⟩
          have : ys.all flatD = true := List.all_eq_true.mpr hy
          simp [inM, inB, itemsOf, hs, flatD, this]
        cases b
        · refine ⟨fateD (some 0, some 0), s, ?_, ⟨_, rfl, rfl, rfl⟩, p, .refl⟩
          simp [m__law_row_lc3_elt, cIf, bVal, cOp, cTup, cVar, cK, aCons, aNil, R.bind, lift, hb, small_size, fateD, bd]
        · obtain ⟨x, s3, e3, fp, p3, g3⟩ := two_bounds (ρ := [some (.ref i), some (.int many), some (.ref n), some (.int z), none]) rfl p
          refine ⟨x, s3, ?_, fp, p3, g3⟩
          rw [← e3]
          unfold m__law_row_lc3_elt
          generalize hX : cTup (aCons (cCall 1 M__law_bound (aCons (cVar 0) aNil)) (aCons (cCall 1 M__law_bound (aCons (cVar 0) aNil)) aNil)) = X
          simp [cIf, bVal, cOp, cVar, R.bind, lift, hb])
  have z := rows_tup (by rw [q2, rangeL_len]) q3
  exact ⟨xs, s', tup_pool e q1, z.1, z.2, q4, q5⟩
theorem draw_call {k : Nat} {ρ : En} {s : Sto} {a : C} {n : Int} {r : D} {s1 : Sto} (hρ : ∀ s, cVar k ρ s = .ok (.ref i) s) (ha : ∀ s, a ρ s = .ok (.int n) s) (e : M__law_draw [] [.ref i, .int n] s = .ok r s1) : cCall 2 M__law_draw (aCons (cVar k) (aCons a aNil)) ρ s = .ok r s1 :=
  call_ok (args2 (hρ s) (ha s)) rfl e
theorem row_eq (h0 : Pool i j st) (hm : 1 ≤ many) (hz : many ≤ 8) : ∃ x s', M__law_row [] [.ref i, .int many] st = .ok x s' ∧ RowP many x ∧ x.flat = true ∧ Pool i j s' ∧ Grow i j st s' := by
  obtain ⟨r, s1, e1, _, _, p1, g1⟩ := draw_eq (many := 3) h0 (by omega) (by omega)
  have c1 : bVal (cOp eqM (cCall 2 M__law_draw (aCons (cVar 0) (aCons (cK (.int 3)) aNil))) (cK (.int 0))) [some (.ref i), some (.int many), none, none, none] st = .ok (decide (r = 0)) s1 :=
    val_ok (op_ok (draw_call (k := 0) (fun _ => rfl) (fun _ => rfl) e1) rfl eqM_int)
  by_cases hr : r = 0
  · obtain ⟨xs, s', e2, z1, z2, q4, q5⟩ := row_lc1 p1 hz
    refine run_pool (m := m__law_row_b1) h0 ⟨_, s', ?_, z1, z2, q4, g1.trans q5⟩
    rw [decide_eq_true hr] at c1
    exact seq_rt ((if_t c1).trans (ret_ok e2))
  · obtain ⟨ys, n, s2, e2, hn, hy, ni, nj, p2, g2⟩ := row_lc2 p1 hm hz
    obtain ⟨xs, s3, e3, z1, z2, p3, g3⟩ := row_lc3 p2 hz hn hy ni nj
    refine run_pool (m := m__law_row_b1) h0 ⟨_, s3, ?_, z1, z2, p3, (g1.trans g2).trans g3⟩
    rw [decide_eq_false hr] at c1
    exact (seq_nx ((if_f c1).trans rfl)).trans ((seq_nx (asg_ok e2 rfl)).trans (ret_ok e3))
end

section
variable {i j : Nat} {st s : Sto} {many : Nat}
def BookP (many : Nat) (x : D) : Prop := ∃ b : List (List Fate), x = bookD b ∧ b ≠ [] ∧ b.length ≤ 8 ∧ ∀ r ∈ b, r.length = many ∧ ∀ f ∈ r, okF f
theorem book_of {xs : List D} (h1 : 1 ≤ xs.length) (h8 : xs.length ≤ 8) (h : ∀ x ∈ xs, RowP many x) : BookP many (.tup xs) ∧ (D.tup xs).flat = true := by
  obtain ⟨as, rfl, q⟩ := list_choose (g := rowD) (Q := fun r => r.length = many ∧ ∀ f ∈ r, okF f) fun x hx => by
    obtain ⟨r, e, q⟩ := h x hx
    exact ⟨r, e, q⟩
  rw [List.length_map] at h1 h8
  exact ⟨⟨as, rfl, by intro z; rw [z] at h1; simp at h1, h8, q⟩, book_flat as⟩
theorem book_in {ρ : En} {f : Fate} {o : Int} {w : D} (hf : okF f) (h0 : Pool i j st) (hz : many ≤ 8) (hm : 1 ≤ many) (hρ : ρ = [some (.ref i), some (.int many), some w, some (fateD f), some (.int o), none, none]) :
    ∃ x s', m__law_book_lc2_elt ρ st = .ok x s' ∧ RowP many x ∧ Pool i j s' ∧ Grow i j st s' := by
  subst hρ
  obtain ⟨xs, s', e, q1, q2, q3, q4, q5⟩ := cLc_pool (st0 := st) (mi := m__law_book_lc1_it) (own := [5]) (tgt := tN 5) (mt := bYes) (me := m__law_book_lc1_elt) (ρ := [some (.ref i), some (.int many), some w, some (fateD f), some (.int o), none, none]) (items := rangeL 0 many) (lk := []) (P := FateP) h0
      (it_rng rfl (by omega)) rfl (small_size (by rw [rangeL_len]; omega)) (fun k d hd s p g => by
        obtain ⟨_, rfl⟩ := rangeL_at hd
        clear hd
        generalize (0 + ((k : Nat) : Int)) = z
        refine ⟨[some (.ref i), some (.int many), some w, some (fateD f), some (.int o), some (.int z), none], rfl, rfl, ?_⟩
        by_cases hzo : z = o
        · refine ⟨fateD f, s, ?_, ⟨f, rfl, hf⟩, p, .refl⟩
          simp [m__law_book_lc1_elt, cIf, bVal, cOp, cVar, R.bind, lift, eqM_int, hzo]
        · refine ⟨fateD (some 0, some 0), s, ?_, ⟨_, rfl, rfl, rfl⟩, p, .refl⟩
          simp [m__law_book_lc1_elt, cIf, bVal, cOp, cTup, cVar, cK, aCons, aNil, R.bind, lift, eqM_int, hzo, small_size, fateD, bd])
  have z := rows_tup (by rw [q2, rangeL_len]) q3
  exact ⟨.tup xs, s', tup_pool e q1, z.1, q4, q5⟩
theorem book_lc2 {f : Fate} {w : D} (hf : okF f) (h0 : Pool i j st) (hz : many ≤ 8) (hm : 1 ≤ many) :
    ∃ xs s', cBi tupleM (aCons (cLc m__law_book_lc2_it [4] (tN 4) bYes m__law_book_lc2_elt) aNil) [some (.ref i), some (.int many), some w, some (fateD f), none, none, none] st = .ok (.tup xs) s' ∧ xs.length = many ∧ (∀ x ∈ xs, RowP many x) ∧ Pool i j s' ∧ Grow i j st s' := by
  obtain ⟨xs, s', e, q1, q2, q3, q4, q5⟩ := cLc_pool (st0 := st) (mi := m__law_book_lc2_it) (own := [4]) (tgt := tN 4) (mt := bYes) (me := m__law_book_lc2_elt) (ρ := [some (.ref i), some (.int many), some w, some (fateD f), none, none, none]) (items := rangeL 0 many) (lk := []) (P := RowP many) h0
      (it_rng rfl (by omega)) rfl (small_size (by rw [rangeL_len]; omega)) (fun k d hd s p g => by
        obtain ⟨_, rfl⟩ := rangeL_at hd
        exact ⟨_, rfl, rfl, book_in hf p hz hm rfl⟩)
  exact ⟨xs, s', tup_pool e q1, by rw [q2, rangeL_len], q3, q4, q5⟩
theorem book_lc3 {w : D} (h0 : Pool i j st) (hz : many ≤ 8) (hm : 1 ≤ many) :
    ∃ xs s', cBi tupleM (aCons (cLc m__law_book_lc3_it [6] (tN 6) bYes m__law_book_lc3_elt) aNil) [some (.ref i), some (.int many), some w, none, none, none, none] st = .ok (.tup xs) s' ∧ 1 ≤ xs.length ∧ xs.length ≤ 8 ∧ (∀ x ∈ xs, RowP many x) ∧ Pool i j s' ∧ Grow i j st s' := by
  obtain ⟨r, s1, e1, r1, p1, g1⟩ := one_draw (k := 0) (many := 4) (ρ := [some (.ref i), some (.int many), some w, none, none, none, none]) (a := cK (.int 4)) rfl (fun _ => rfl) h0 (by omega) (by omega)
  obtain ⟨xs, s', e, q1, q2, q3, q4, q5⟩ := cLc_pool (st0 := st) (mi := m__law_book_lc3_it) (own := [6]) (tgt := tN 6) (mt := bYes) (me := m__law_book_lc3_elt) (ρ := [some (.ref i), some (.int many), some w, none, none, none, none]) (items := rangeL 0 (1 + r)) (lk := []) (P := RowP many) p1
      (it_rng (by
        have e2 := e1
        generalize hX : cOp addM (cK (.int 1)) (cCall 2 M__law_draw (aCons (cVar 0) (aCons (cK (.int 4)) aNil))) = X at e2 ⊢
        unfold aCons
        rw [e2]
        rfl) (by omega)) rfl (small_size (by rw [rangeL_len]; omega)) (fun k d hd s p g => by
        obtain ⟨x, s3, e3, hx, _, p3, g3⟩ := row_eq p hm hz
        exact ⟨[some (.ref i), some (.int many), some w, none, none, none, some d], rfl, rfl, x, s3, call_ok (args2 rfl rfl) rfl e3, hx, p3, g3⟩)
  exact ⟨xs, s', tup_pool e q1, by rw [q2, rangeL_len]; omega, by rw [q2, rangeL_len]; omega, q3, q4, g1.trans q5⟩
theorem book_eq (h0 : Pool i j st) (hm : 1 ≤ many) (hz : many ≤ 8) : ∃ x s', M__law_book [] [.ref i, .int many] st = .ok x s' ∧ BookP many x ∧ x.flat = true ∧ Pool i j s' ∧ Grow i j st s' := by
  obtain ⟨w, s1, e1, w0, w1, p1, g1⟩ := draw_eq (many := 6) h0 (by omega) (by omega)
  have c1 : sAsg (cCall 2 M__law_draw (aCons (cVar 0) (aCons (cK (.int 6)) aNil))) (tN 2) [some (.ref i), some (.int many), none, none, none, none, none] st = .nx [some (.ref i), some (.int many), some (.int w), none, none, none, none] s1 :=
    asg_ok (draw_call (k := 0) (fun _ => rfl) (fun _ => rfl) e1) rfl
  have c2 : bVal (cOp ltM (cVar 2) (cK (.int 2))) [some (.ref i), some (.int many), some (.int w), none, none, none, none] s1 = .ok (decide (w < 2)) s1 := val_ok (op_ok (x := .int w) (y := .int 2) rfl rfl rfl)
  by_cases hw : w < 2
  · rw [decide_eq_true hw] at c2
    let o : Ob := .lst [fateD (none, some 0), fateD (some 0, none)]
    obtain ⟨f, hf, ef⟩ : ∃ f : Fate, okF f ∧ atI [fateD (none, some 0), fateD (some 0, none)] w = some (fateD f) := by
      have : w = 0 ∨ w = 1 := by omega
      rcases this with rfl | rfl
      · exact ⟨(none, some 0), ⟨rfl, rfl⟩, atI_zero⟩
      · exact ⟨(some 0, none), ⟨rfl, rfl⟩, atI_one⟩
    have p2 := p1.app (x := [o])
    obtain ⟨xs, s', e2, l2, q2, q4, q5⟩ := book_lc2 (w := .int w) hf p2 hz hm
    obtain ⟨z1, z2⟩ := book_of (many := many) (xs := xs) (by omega) (by omega) q2
    refine run_pool (m := m__law_book_b1) h0 ⟨_, s', ?_, z1, z2, q4, g1.trans (Grow.app.trans q5)⟩
    have c3 : sAsg (cOp ixM (cLst (aCons (cTup (aCons (cK .non) (aCons (cK (.int 0)) aNil))) (aCons (cTup (aCons (cK (.int 0)) (aCons (cK .non) aNil))) aNil))) (cVar 2)) (tN 3) [some (.ref i), some (.int many), some (.int w), none, none, none, none] s1 = .nx [some (.ref i), some (.int many), some (.int w), some (fateD f), none, none, none] (s1 ++ [o]) := by
      have hl : cLst (aCons (cTup (aCons (cK .non) (aCons (cK (.int 0)) aNil))) (aCons (cTup (aCons (cK (.int 0)) (aCons (cK .non) aNil))) aNil)) [some (.ref i), some (.int many), some (.int w), none, none, none, none] s1 = .ok (.ref s1.length) (s1 ++ [o]) := by
        simp [cLst, cTup, cK, aCons, aNil, R.bind, small_size, o, fateD, bd]
      refine asg_ok (op_ok (y := .int w) (s2 := s1 ++ [o]) hl rfl ?_) rfl
      unfold ixM
      simp only [List.getElem?_concat_length, o, ef]
      rfl
    exact (seq_nx c1).trans (seq_rt ((if_t c2).trans ((seq_nx c3).trans (ret_ok e2))))
  · rw [decide_eq_false hw] at c2
    obtain ⟨xs, s', e2, l1, l8, q2, q4, q5⟩ := book_lc3 (w := .int w) p1 hz hm
    obtain ⟨z1, z2⟩ := book_of (many := many) (xs := xs) l1 l8 q2
    refine run_pool (m := m__law_book_b1) h0 ⟨_, s', ?_, z1, z2, q4, g1.trans q5⟩
    exact (seq_nx c1).trans ((seq_nx ((if_f c2).trans rfl)).trans (ret_ok e2))
/-! weavings -/
def TapeP (x : D) : Prop := ∃ t : List Int, x = tapeD t ∧ t.length ≤ 40 ∧ ∀ v ∈ t, 0 ≤ v ∧ v ≤ 63
theorem tape_in {ρ : En} {mo : Nat} (hmo : mo ≤ 40) (h0 : Pool i j st) (hρ : ∃ u4 u5 : Option D, ρ = [some (.ref i), some (.int many), some (.int 3), some (.int mo), u4, u5, none]) :
    ∃ x s', cBi tupleM (aCons (cLc m__law_weaving_lc1_it [6] (tN 6) bYes m__law_weaving_lc1_elt) aNil) ρ st = .ok x s' ∧ TapeP x ∧ Pool i j s' ∧ Grow i j st s' := by
  obtain ⟨u4, u5, rfl⟩ := hρ
  obtain ⟨r, s1, e1, r0, r1, p1, g1⟩ := draw_eq (many := (mo : Int) + 1) h0 (by omega) (by omega)
  obtain ⟨k, rfl⟩ := Int.eq_ofNat_of_zero_le r0
  have c1 : cCall 2 M__law_draw (aCons (cVar 0) (aCons (cOp addM (cVar 3) (cK (.int 1))) aNil)) [some (.ref i), some (.int many), some (.int 3), some (.int mo), u4, u5, none] st = .ok (.int k) s1 :=
    call_ok (args2 (x := .ref i) (y := .int ((mo : Int) + 1)) (s1 := st) (s2 := st) rfl (op_ok (x := .int mo) (y := .int 1) rfl rfl rfl)) rfl e1
  obtain ⟨xs, s', e, q1, q2, q3, q4, q5⟩ := cLc_pool (st0 := st) (mi := m__law_weaving_lc1_it) (own := [6]) (tgt := tN 6) (mt := bYes) (me := m__law_weaving_lc1_elt) (ρ := [some (.ref i), some (.int many), some (.int 3), some (.int mo), u4, u5, none]) (items := rangeL 0 k) (lk := []) (P := fun x => ∃ v : Int, x = .int v ∧ 0 ≤ v ∧ v ≤ 63) p1
      (it_rng (by
        generalize hX : cCall 2 M__law_draw (aCons (cVar 0) (aCons (cOp addM (cVar 3) (cK (.int 1))) aNil)) = X at c1 ⊢
        unfold aCons
        rw [c1]
        rfl) (by omega)) rfl (small_size (by rw [rangeL_len]; omega)) (fun k d hd s p g => by
        obtain ⟨v, s3, e3, v0, v1, p3, g3⟩ := draw_eq (many := 3) p (by omega) (by omega)
        exact ⟨[some (.ref i), some (.int many), some (.int 3), some (.int mo), u4, u5, some d], rfl, rfl, .int v, s3, call_ok (args2 rfl rfl) rfl e3, ⟨v, rfl, v0, by omega⟩, p3, g3⟩)
  obtain ⟨t, rfl, ht⟩ := list_choose (g := D.int) (Q := fun v => 0 ≤ v ∧ v ≤ 63) q3
  rw [List.length_map, rangeL_len] at q2
  exact ⟨_, s', tup_pool e q1, ⟨t, rfl, by omega, ht⟩, q4, g1.trans q5⟩
end

section
variable {ρ : En} {s s2 : Sto} {n : Nat} {o : C} {r : AL} {x : D} {xs ys ds zs : List D}
theorem meth_ok {f : List D → List D → Option (D × List D)} (ho : o ρ s = .ok (.ref n) s) (h1 : s[n]? = some (.lst ys)) (hr : r ρ s = .ok ds s2) (h2 : s2[n]? = some (.lst xs)) (hf : f xs ds = some (x, zs)) : cMethL f o r ρ s = .ok x (s2.set n (.lst zs)) := by
  unfold cMethL
  rw [ho, bind_ok]
  simp only [h1, hr, bind_ok, h2, hf]
theorem app_ok (h : xs.length ≤ 1000) : appendM xs [x] = some (.non, xs ++ [x]) := by
  unfold appendM
  simp only
  rw [if_pos (small_size2 h)]
theorem expr_ok {m : C} (h : m ρ s = .ok x s2) : sExpr m ρ s = .nx ρ s2 := by unfold sExpr; rw [h]; rfl
theorem args1 {a : C} (ha : a ρ s = .ok x s2) : aCons a aNil ρ s = .ok [x] s2 := by unfold aCons aNil; rw [ha]; rfl
theorem for_ok {mi : MI} {g : T} {A : S} {items : List D} {u : RO} (h : mi ρ s = .ok ⟨items, []⟩ s2) (hl : loopF (okW []) g A items ρ s2 = u) : sFor mi g A ρ s = u := by unfold sFor; rw [h]; exact hl
theorem bi_ok {f : List D → Sto → Option (D × Sto)} {s3 : Sto} (hr : r ρ s = .ok ds s2) (hf : f ds s2 = some (x, s3)) : cBi f r ρ s = .ok x s3 := by unfold cBi; rw [hr, bind_ok, hf, lift_some]
theorem tup_ok (h : s[n]? = some (.lst xs)) : tupleM [.ref n] s = some (.tup xs, s) := by simp [tupleM, itemsOf, h]
end
section
variable {i j : Nat} {st s : Sto} {many : Nat}
def WeavP (many : Nat) (x : D) : Prop := ∃ ts : List (List Int), x = weavD ts ∧ ts.length = many ∧ ∀ t ∈ ts, t.length ≤ 40 ∧ ∀ v ∈ t, 0 ≤ v ∧ v ≤ 63
theorem tape_flat (t : List Int) : (tapeD t).flat = true := by unfold tapeD D.flat; exact ils_flat t
theorem weav_flat (ts : List (List Int)) : (weavD ts).flat = true := by
  unfold weavD D.flat
  induction ts with
  | nil => rfl
  | cons f r ih => simp [D.flats, tape_flat, ih]
theorem weaving_eq {mo : Nat} (hmo : mo ≤ 40) (h0 : Pool i j st) (hz : many ≤ 8) : ∃ x s', M__law_weaving [] [.ref i, .int many, .int 3, .int mo] st = .ok x s' ∧ WeavP many x ∧ x.flat = true ∧ Pool i j s' ∧ Grow i j st s' := by
  have li := h0.li
  have lj := h0.lj
  obtain ⟨ρ', s', e, ⟨u5, rfl⟩, acc, a1, a2, a3, p, g⟩ := loopF_inv0 (ok := okW []) (tgt := tN 5) (body := m__law_weaving_for1_body)
    (J := fun k ρ s => (∃ u5, ρ = [some (.ref i), some (.int many), some (.int 3), some (.int mo), some (.ref st.length), u5, none]) ∧ ∃ acc, s[st.length]? = some (.lst acc) ∧ acc.length = k ∧ (∀ x ∈ acc, TapeP x) ∧ Pool i j s ∧ Grow i j st s)
    (fun _ _ _ _ => okW_nil) (rangeL 0 many) [some (.ref i), some (.int many), some (.int 3), some (.int mo), some (.ref st.length), none, none] (st ++ [.lst []]) ⟨⟨_, rfl⟩, [], by simp, rfl, (fun _ h => by cases h), h0.app, Grow.app⟩ (fun k d ρ s hd ⟨⟨u5, eρ⟩, acc, a1, a2, a3, p, g⟩ => by
      subst eρ
      obtain ⟨hk, _⟩ := rangeL_at hd
      obtain ⟨x, s3, e, hx, p3, g3⟩ := tape_in (many := many) (ρ := [some (.ref i), some (.int many), some (.int 3), some (.int mo), some (.ref st.length), some d, none]) hmo p ⟨_, _, rfl⟩
      have b1 := g3.at a1 (by omega) (by omega)
      refine ⟨_, _, [some (.ref i), some (.int many), some (.int 3), some (.int mo), some (.ref st.length), some d, none], s3.set st.length (.lst (acc ++ [x])), rfl, ?_, ⟨_, rfl⟩, acc ++ [x], ?_, by simp [a2], fun y hy => ?_, p3.other (by omega) (by omega), (g.trans g3).setn (Nat.le_refl _)⟩
      · exact expr_ok (meth_ok rfl a1 (args1 e) b1 (app_ok (by omega)))
      · exact List.getElem?_set_self (List.getElem?_eq_some_iff.mp b1).1
      · rcases List.mem_append.mp hy with z | z
        · exact a3 y z
        · rw [List.mem_singleton.mp z]
          exact hx)
  rw [rangeL_len] at a2
  obtain ⟨ts, rfl, ht⟩ := list_choose (g := tapeD) (Q := fun t => t.length ≤ 40 ∧ ∀ v ∈ t, 0 ≤ v ∧ v ≤ 63) a3
  rw [List.length_map] at a2
  refine run_pool (m := m__law_weaving_b1) h0 ⟨weavD ts, s', ?_, ⟨ts, rfl, a2, ht⟩, weav_flat ts, p, g⟩
  have c1 : sAsg (cLst aNil) (tN 4) [some (.ref i), some (.int many), some (.int 3), some (.int mo), none, none, none] st = .nx [some (.ref i), some (.int many), some (.int 3), some (.int mo), some (.ref st.length), none, none] (st ++ [.lst []]) := by
    simp [sAsg, cLst, aNil, R.bind, thenS, tN]
  exact (seq_nx c1).trans ((seq_nx (for_ok (it_rng rfl (by omega)) e)).trans (ret_ok (bi_ok (args1 (x := .ref st.length) rfl) (tup_ok a1))))
/-! turned -/
theorem listRg_eq {n : Nat} (hn : n ≤ 1000) {s : Sto} : listRgM [.int n] s = some (.ref s.length, s ++ [.lst (ils (ups n))]) := by
  have h1 : okRg 0 n = true := by
    unfold okRg in62
    simp
    omega
  have h2 : rgD 0 n = ils (ups n) := by
    unfold rgD ups ils
    rw [List.map_map, show ((n : Int) - 0).toNat = n by omega]
    refine List.map_congr_left fun i _ => ?_
    simp
  unfold listRgM
  simp only [h1, h2, if_true]
theorem map_eraseD : ∀ (ls : List Int) (k : Nat), (ils ls).eraseIdx k = ils (ls.eraseIdx k)
  | [], k => rfl
  | a :: r, 0 => rfl
  | a :: r, k + 1 => by
    show D.int a :: (ils r).eraseIdx k = D.int a :: ils (r.eraseIdx k)
    rw [map_eraseD r k]
theorem popAt_eq {L : List Int} {k : Nat} (hk : k < L.length) (hz : L.length ≤ 1000) : popAtM (ils L) [.int (k : Nat)] = some (.int L[k], ils (L.eraseIdx k)) := by
  have h1 : seqIndex? (k : Nat) (ils L).length = some k := by
    rw [len_ils]
    unfold seqIndex?
    simp
    omega
  have h2 : (ils L)[k]? = some (.int L[k]) := by simp [ils, hk]
  have h3 := map_eraseD L k
  unfold popAtM
  simp only
  rw [if_pos (by omega), h1]
  simp only [h2, h3]
theorem gcR_ref {m : Nat} {o : Ob} (hm : st.length ≤ m) (ho : s[m]? = some o) : gcR st (.ok (.ref m) s) = .ok (.ref m) s ∨ gcR st (.ok (.ref m) s) = .ok (.ref st.length) (st ++ [o]) := by
  unfold gcR gcD
  have h2 : ¬ m < st.length := by omega
  by_cases ht : s.take st.length = st
  · by_cases hu : D.unders st.length o.vals = true
    · right
      simp [ht, D.under, h2, ho, hm, hu]
    · left
      simp [ht, D.under, h2, ho, hm, hu]
  · left
    simp [ht]
theorem run_rt {mask : List Bool} {n : Nat} {m : S} {fs : List Clo} {ds : List D} {d : D} (h : m (startM mask ds n) st = .rt d s) (hl : ds.length = plains mask := by rfl) : runDef mask n (fun _ => m) fs ds st = gcR st (.ok d s) := by
  unfold runDef
  rw [if_pos hl]
  simp only [h]
  rfl
theorem turned_eq {n : Nat} (hn : 1 ≤ n) (hz : n ≤ 100) (h0 : Pool i j st) : ∃ t ns s', M__law_turned [] [.ref i, .int n] st = .ok (.ref t) s' ∧ s'[t]? = some (.lst (ils ns)) ∧ ns.Nodup ∧ (∀ x ∈ ns, 0 ≤ x ∧ x < n) ∧ ns.length = n ∧ t ≠ i ∧ t ≠ j ∧ Pool i j s' ∧ Grow i j st s' := by
  have li := h0.li
  have lj := h0.lj
  obtain ⟨ρ', s', e, ⟨u4, rfl⟩, L, F, a1, a2, a3, a4, a5, p, g⟩ := loopF_inv0 (ok := okW []) (tgt := tN 4) (body := m__law_turned_for1_body)
    (J := fun k ρ s => (∃ u4, ρ = [some (.ref i), some (.int n), some (.ref st.length), some (.ref (st.length + 1)), u4]) ∧ ∃ L F, s[st.length]? = some (.lst (ils L)) ∧ s[st.length + 1]? = some (.lst (ils F)) ∧ L.length + k = n ∧ F.length = k ∧ (L ++ F).Perm (ups n) ∧ Pool i j s ∧ Grow i j st s)
    (fun _ _ _ _ => okW_nil) (rangeL 0 n) [some (.ref i), some (.int n), some (.ref st.length), some (.ref (st.length + 1)), none] (st ++ [.lst (ils (ups n)), .lst []])
    ⟨⟨_, rfl⟩, ups n, [], by simp, by rw [List.getElem?_append_right (by omega)]; simp [ils], by rw [ups_len, Nat.add_zero], rfl, by simp, h0.app, Grow.app⟩ (fun k d ρ s hd ⟨⟨u4, eρ⟩, L, F, a1, a2, a3, a4, a5, p, g⟩ => by
      subst eρ
      obtain ⟨hk, _⟩ := rangeL_at hd
      have hL : 1 ≤ L.length := by omega
      obtain ⟨r, s1, e1, r0, r1, p1, g1⟩ := draw_eq (many := (L.length : Nat)) p (by omega) (by omega)
      obtain ⟨q, rfl⟩ := Int.eq_ofNat_of_zero_le r0
      have hq : q < L.length := by omega
      have b1 := g1.at a1 (by omega) (by omega)
      have b2 := g1.at a2 (by omega) (by omega)
      have lb1 := (List.getElem?_eq_some_iff.mp b1).1
      have lb2 := (List.getElem?_eq_some_iff.mp b2).1
      have dr : cCall 2 M__law_draw (aCons (cVar 0) (aCons (cBi lenM (aCons (cVar 2) aNil)) aNil)) [some (.ref i), some (.int n), some (.ref st.length), some (.ref (st.length + 1)), some d] s = .ok (.int q) s1 :=
        call_ok (args2 (x := .ref i) (y := .int (L.length : Nat)) (s1 := s) (s2 := s) rfl (bi_ok (args1 (x := .ref st.length) rfl) (by simp [lenM, itemsOf, a1]))) rfl e1
      have c2 : (s1.set st.length (.lst (ils (L.eraseIdx q))))[st.length + 1]? = some (.lst (ils F)) := by
        rw [List.getElem?_set_ne (by omega)]
        exact b2
      refine ⟨_, _, [some (.ref i), some (.int n), some (.ref st.length), some (.ref (st.length + 1)), some d], (s1.set st.length (.lst (ils (L.eraseIdx q)))).set (st.length + 1) (.lst (ils F ++ [.int L[q]])), rfl, ?_, ⟨_, rfl⟩, L.eraseIdx q, F ++ [L[q]], ?_, ?_, ?_, by simp [a4], turn_perm hq a5, (p1.other (by omega) (by omega)).other (by omega) (by omega), ((g.trans g1).setn (Nat.le_refl _)).setn (by omega)⟩
      · exact expr_ok (meth_ok rfl a2 (args1 (meth_ok rfl a1 (args1 dr) b1 (popAt_eq hq (by omega)))) c2 (app_ok (by simp [ils]; omega)))
      · rw [List.getElem?_set_ne (by omega)]
        exact List.getElem?_set_self lb1
      · rw [List.getElem?_set_self (by rw [List.length_set]; exact lb2)]
        simp [ils]
      · rw [List.length_eraseIdx, if_pos hq]
        omega)
  rw [rangeL_len] at a3 a4
  have hL : L = [] := List.eq_nil_of_length_eq_zero (by omega)
  subst hL
  rw [List.nil_append] at a5
  have c1 : sPar 2 3 (aCons (cBi listRgM (aCons (cVar 1) aNil)) (aCons (cLst aNil) aNil)) [some (.ref i), some (.int n), none, none, none] st = .nx [some (.ref i), some (.int n), some (.ref st.length), some (.ref (st.length + 1)), none] (st ++ [.lst (ils (ups n)), .lst []]) := by
    have a1 : cBi listRgM (aCons (cVar 1) aNil) [some (.ref i), some (.int n), none, none, none] st = .ok (.ref st.length) (st ++ [.lst (ils (ups n))]) := bi_ok (args1 (x := .int n) rfl) (listRg_eq (by omega))
    have a2 : cLst aNil [some (.ref i), some (.int n), none, none, none] (st ++ [Ob.lst (ils (ups n))]) = .ok (.ref (st.length + 1)) (st ++ [.lst (ils (ups n)), .lst []]) := by simp [cLst, aNil, R.bind]
    have a3 := args2 a1 a2
    unfold sPar
    rw [a3]
    rfl
  have run : M__law_turned [] [.ref i, .int n] st = gcR st (.ok (.ref (st.length + 1)) s') := by
    have e2 : m__law_turned_b1 [some (.ref i), some (.int n), none, none, none] st = .rt (.ref (st.length + 1)) s' := (seq_nx c1).trans ((seq_nx (for_ok (it_rng rfl (by omega)) e)).trans (ret_ok rfl))
    exact run_rt (m := m__law_turned_b1) e2
  have f1 : F.Nodup := a5.symm.nodup (ups_nodup n)
  have f2 : ∀ x ∈ F, 0 ≤ x ∧ x < n := fun x hx => ups_mem (a5.mem_iff.mp hx)
  rcases gcR_ref (st := st) (s := s') (m := st.length + 1) (by omega) a2 with h | h
  · exact ⟨_, F, s', run.trans h, a2, f1, f2, a4, by omega, by omega, p, g⟩
  · exact ⟨_, F, _, run.trans h, by simp, f1, f2, a4, by omega, by omega, h0.app, Grow.app⟩
end

theorem eraseDups_len {l : List Int} (h : l.Nodup) : l.eraseDups.length = l.length :=
  ((List.perm_ext_iff_of_nodup (nodup_eraseDups _ l (Nat.le_refl _)) h).mpr fun x => List.mem_eraseDups).length_eq
theorem notIn_ints {s : Sto} {n : Nat} {pts : List Int} {z : Int} (h : s[n]? = some (.lst (ils pts))) : notInM (.int z) (.ref n) s = some (.bl (!decide (z ∈ pts)), s) := by
  have h1 : (ils pts).all flatD = true := by
    rw [List.all_eq_true]
    intro x hx
    obtain ⟨i, _, rfl⟩ := List.mem_map.mp hx
    rfl
  have h2 : ((ils pts).any fun y => eqF y (.int z)) = decide (z ∈ pts) := by
    rw [Bool.eq_iff_iff, List.any_eq_true, decide_eq_true_eq]
    constructor
    · rintro ⟨x, hx, e⟩
      obtain ⟨i, hi, rfl⟩ := List.mem_map.mp hx
      have : i = z := by simpa [eqF] using e
      rw [← this]
      exact hi
    · intro hz
      exact ⟨.int z, List.mem_map.mpr ⟨z, hz, rfl⟩, by simp [eqF]⟩
  unfold notInM inB
  simp only [itemsOf, h, flatD, h1, h2, Bool.and_self, if_true, Option.map_some]
def PtsOk (p : Int) (pts : List Int) : Prop := pts.Nodup ∧ (∀ x ∈ pts, 0 ≤ x ∧ x ≤ p) ∧ 1 ≤ pts.length ∧ pts.length ≤ 8
section
variable {i j : Nat} {st s : Sto}
/-- the statement that makes points -/
noncomputable abbrev ptsThen : S := sAsg (cSl (cCall 2 M__law_turned (aCons (cVar 0) (aCons (cOp addM (cVar 3) (cK (.int 1))) aNil))) poNone (poSome (cVar 4))) (tN 5)
theorem pts_small {p : Int} {c : Nat} {u0 u1 : Option D} (h0 : Pool i j s) (hp : 2 ≤ p) (hp2 : p < 16) (hc : 1 ≤ c) (hc8 : c ≤ 8) (hcp : (c : Int) ≤ p + 1) :
    ∃ t pts s' , ptsThen [some (.ref i), u0, u1, some (.int p), some (.int c), none, none, none, none] s = .nx [some (.ref i), u0, u1, some (.int p), some (.int c), some (.ref t), none, none, none] s' ∧ s'[t]? = some (.lst (ils pts)) ∧ PtsOk p pts ∧ t ≠ i ∧ t ≠ j ∧ Pool i j s' ∧ Grow i j s s' ∧ pts.length ≤ c := by
  obtain ⟨q, hq⟩ := Int.eq_ofNat_of_zero_le (show 0 ≤ p + 1 by omega)
  obtain ⟨t, ns, s1, e1, a1, a2, a3, a4, ti, tj, p1, g1⟩ := turned_eq (n := q) (by omega) (by omega) h0
  have li := p1.li
  have lj := p1.lj
  rw [← hq] at e1
  have c1 : cCall 2 M__law_turned (aCons (cVar 0) (aCons (cOp addM (cVar 3) (cK (.int 1))) aNil)) [some (.ref i), u0, u1, some (.int p), some (.int c), none, none, none, none] s = .ok (.ref t) s1 :=
    call_ok (args2 (x := .ref i) (y := .int (p + 1)) (s1 := s) (s2 := s) rfl (op_ok (x := .int p) (y := .int 1) rfl rfl rfl)) rfl e1
  have c2 : cSl (cCall 2 M__law_turned (aCons (cVar 0) (aCons (cOp addM (cVar 3) (cK (.int 1))) aNil))) poNone (poSome (cVar 4)) [some (.ref i), u0, u1, some (.int p), some (.int c), none, none, none, none] s = .ok (.ref s1.length) (s1 ++ [.lst (ils (ns.take c))]) := by
    unfold cSl
    rw [c1, bind_ok]
    have : slM (.ref t) none (some (c : Int)) s1 = some (.ref s1.length, s1 ++ [.lst (ils (ns.take c))]) := by
      unfold slM
      simp only [a1, cut_to]
      rw [ils, ils, List.map_take]
    show Rg.lift (slM (.ref t) none (some (c : Int)) s1) = _
    rw [this, lift_some]
  refine ⟨_, ns.take c, _, asg_ok c2 rfl, by simp, ⟨a2.sublist (List.take_sublist _ _), fun x hx => ?_, ?_, ?_⟩, by omega, by omega, p1.app, g1.trans Grow.app, by rw [List.length_take]; omega⟩
  · have := a3 x (List.mem_of_mem_take hx)
    omega
  · rw [List.length_take]
    omega
  · rw [List.length_take]
    omega
theorem pts_lc {p b g : Int} {c : Nat} {u0 u1 : Option D} (hp : 2 ≤ p) (hc8 : c ≤ 8) : ∃ k, cLc m__law_ground_lc1_it [8] (tN 8) bYes m__law_ground_lc1_elt [some (.ref i), u0, u1, some (.int p), some (.int c), none, some (.int b), some (.int g), none] s = .ok (.ref s.length) (s ++ .lst (ils (gaps p b g c)) :: k) := by
  obtain ⟨k, e⟩ := cLc_map (mi := m__law_ground_lc1_it) (own := [8]) (tgt := tN 8) (mt := bYes) (me := m__law_ground_lc1_elt) (ρ := [some (.ref i), u0, u1, some (.int p), some (.int c), none, some (.int b), some (.int g), none]) (st := s)
    (as := List.range c) (it := fun k => D.int (0 + (k : Nat))) (g := fun k => D.int ((b + (k : Nat) * g) % (p + 1))) (lk := []) (it_rng (s' := s) rfl (by omega)) okW_nil (small_size (by simp; omega)) (fun k hk acc j => by
      have hk2 := List.mem_range.mp hk
      refine ⟨[some (.ref i), u0, u1, some (.int p), some (.int c), none, some (.int b), some (.int g), some (.int (0 + (k : Nat)))], rfl, rfl, j, ?_⟩
      have h1 : small64b (k : Nat) = true := by
        rw [small64_iff]
        omega
      have h2 : 0 < p + 1 := by omega
      have m1 : ∀ s, mulM (.int (0 + (k : Nat))) (.int g) s = some (.int ((k : Nat) * g), s) := fun s => by
        rw [Int.zero_add]
        unfold mulM
        simp only [h1, Bool.true_or, if_true]
      have m2 : ∀ (x : Int) s, modM (.int x) (.int (p + 1)) s = some (.int (x % (p + 1)), s) := fun x s => by
        unfold modM intM
        simp only [decide_eq_true h2, if_true]
      exact op_ok (x := .int (b + (k : Nat) * g)) (y := .int (p + 1)) (bi_ok (args1 (op_ok (x := .int b) (y := .int ((k : Nat) * g)) rfl (op_ok (x := .int (0 + (k : Nat))) (y := .int g) rfl rfl (m1 _)) rfl)) rfl) (op_ok (x := .int p) (y := .int 1) rfl rfl rfl) (m2 _ _))
  refine ⟨k, ?_⟩
  have h : (List.range c).map (fun k => D.int ((b + (k : Nat) * g) % (p + 1))) = ils (gaps p b g c) := by
    unfold gaps ils
    rw [List.map_map]
    rfl
  rw [h] at e
  exact e
noncomputable abbrev ptsElse : S := sSeq (sAsg (cTup (aCons (cCall 2 M__law_draw (aCons (cVar 0) (aCons (cOp addM (cVar 3) (cK (.int 1))) aNil))) (aCons (cOp addM (cK (.int 1)) (cCall 2 M__law_draw (aCons (cVar 0) (aCons (cOp divM (cOp addM (cVar 3) (cK (.int 1))) (cK (.int 8))) aNil)))) aNil))) (tT 2 (tsCons (tN 6) (tsCons (tN 7) tsNil)))) (sSeq (sAsg (cLc m__law_ground_lc1_it [8] (tN 8) bYes m__law_ground_lc1_elt) (tN 5)) (sIf (bAnd (bVal (cOp notInM (cVar 3) (cVar 5))) (bVal (cOp eqM (cCall 2 M__law_draw (aCons (cVar 0) (aCons (cK (.int 2)) aNil))) (cK (.int 0))))) (sAsg (cVar 3) (tS (cVar 5) (cCall 2 M__law_draw (aCons (cVar 0) (aCons (cVar 4) aNil))))) sNext))
theorem div_ok {a : Int} {s : Sto} : divM (.int a) (.int 8) s = some (.int (a / 8), s) := by
  unfold divM intM
  simp
theorem pts_great {p : Int} {c : Nat} {u0 u1 : Option D} (h0 : Pool i j s) (hp : 16 ≤ p) (hp2 : p ≤ 65521) (hc : 1 ≤ c) (hc8 : c ≤ 8) :
    ∃ t pts s' u6 u7, ptsElse [some (.ref i), u0, u1, some (.int p), some (.int c), none, none, none, none] s = .nx [some (.ref i), u0, u1, some (.int p), some (.int c), some (.ref t), u6, u7, none] s' ∧ s'[t]? = some (.lst (ils pts)) ∧ PtsOk p pts ∧ t ≠ i ∧ t ≠ j ∧ Pool i j s' ∧ Grow i j s s' ∧ pts.length ≤ c := by
  obtain ⟨b, s1, e1, b0, b1, p1, g1⟩ := draw_eq (many := p + 1) h0 (by omega) (by omega)
  obtain ⟨g, s2, e2, k0, k1, p2, g2⟩ := draw_eq (many := (p + 1) / 8) p1 (by omega) (by omega)
  have li := p2.li
  have lj := p2.lj
  have c1 : cCall 2 M__law_draw (aCons (cVar 0) (aCons (cOp addM (cVar 3) (cK (.int 1))) aNil)) [some (.ref i), u0, u1, some (.int p), some (.int c), none, none, none, none] s = .ok (.int b) s1 :=
    call_ok (args2 (x := .ref i) (y := .int (p + 1)) (s1 := s) (s2 := s) rfl (op_ok (x := .int p) (y := .int 1) rfl rfl rfl)) rfl e1
  have c2 : cOp addM (cK (.int 1)) (cCall 2 M__law_draw (aCons (cVar 0) (aCons (cOp divM (cOp addM (cVar 3) (cK (.int 1))) (cK (.int 8))) aNil))) [some (.ref i), u0, u1, some (.int p), some (.int c), none, none, none, none] s1 = .ok (.int (1 + g)) s2 :=
    op_ok (x := .int 1) (y := .int g) rfl (call_ok (args2 (x := .ref i) (y := .int ((p + 1) / 8)) (s1 := s1) (s2 := s1) rfl (op_ok (x := .int (p + 1)) (y := .int 8) (op_ok (x := .int p) (y := .int 1) rfl rfl rfl) rfl div_ok)) rfl e2) rfl
  have c3 : cTup (aCons (cCall 2 M__law_draw (aCons (cVar 0) (aCons (cOp addM (cVar 3) (cK (.int 1))) aNil))) (aCons (cOp addM (cK (.int 1)) (cCall 2 M__law_draw (aCons (cVar 0) (aCons (cOp divM (cOp addM (cVar 3) (cK (.int 1))) (cK (.int 8))) aNil)))) aNil)) [some (.ref i), u0, u1, some (.int p), some (.int c), none, none, none, none] s = .ok (.tup [.int b, .int (1 + g)]) s2 := by
    unfold cTup
    rw [args2 c1 c2, bind_ok, if_pos (small_size (by simp))]
  obtain ⟨k, e3⟩ := pts_lc (i := i) (s := s2) (p := p) (b := b) (g := 1 + g) (c := c) (u0 := u0) (u1 := u1) (by omega) hc8
  have n1 := gaps_nodup (p := p) (b := b) (g := 1 + g) (n := c) (by omega) (by omega) (by omega) hc8
  have n2 : ∀ x ∈ gaps p b (1 + g) c, 0 ≤ x ∧ x ≤ p := fun x hx => gaps_mem (by omega) hx
  have n3 : (gaps p b (1 + g) c).length = c := by simp [gaps]
  have p3 := p2.app (x := .lst (ils (gaps p b (1 + g) c)) :: k)
  have g3 : Grow i j s (s2 ++ .lst (ils (gaps p b (1 + g) c)) :: k) := (g1.trans g2).trans Grow.app
  have at3 : (s2 ++ .lst (ils (gaps p b (1 + g) c)) :: k)[s2.length]? = some (.lst (ils (gaps p b (1 + g) c))) := by simp
  generalize s2 ++ Ob.lst (ils (gaps p b (1 + g) c)) :: k = s3 at e3 p3 g3 at3
  let ρ3 : En := [some (.ref i), u0, u1, some (.int p), some (.int c), some (.ref s2.length), some (.int b), some (.int (1 + g)), none]
  have start : ∀ r, sIf (bAnd (bVal (cOp notInM (cVar 3) (cVar 5))) (bVal (cOp eqM (cCall 2 M__law_draw (aCons (cVar 0) (aCons (cK (.int 2)) aNil))) (cK (.int 0))))) (sAsg (cVar 3) (tS (cVar 5) (cCall 2 M__law_draw (aCons (cVar 0) (aCons (cVar 4) aNil))))) sNext ρ3 s3 = r → ptsElse [some (.ref i), u0, u1, some (.int p), some (.int c), none, none, none, none] s = r := fun r h =>
    (seq_nx (asg_ok c3 rfl)).trans ((seq_nx (asg_ok e3 rfl)).trans h)
  have t1 : bVal (cOp notInM (cVar 3) (cVar 5)) ρ3 s3 = .ok (!decide (p ∈ gaps p b (1 + g) c)) s3 := val_ok (op_ok (x := .int p) (y := .ref s2.length) rfl rfl (notIn_ints at3))
  by_cases hin : p ∈ gaps p b (1 + g) c
  · rw [decide_eq_true hin] at t1
    refine ⟨_, _, s3, _, _, start _ ((if_f (s := s3) ?_).trans rfl), at3, ⟨n1, n2, by omega, by omega⟩, by omega, by omega, p3, g3, by omega⟩
    unfold bAnd
    rw [t1, bind_ok]
    rfl
  · rw [decide_eq_false hin] at t1
    obtain ⟨d, s4, e4, _, _, p4, g4⟩ := draw_eq (many := 2) p3 (by omega) (by omega)
    have t2 : bAnd (bVal (cOp notInM (cVar 3) (cVar 5))) (bVal (cOp eqM (cCall 2 M__law_draw (aCons (cVar 0) (aCons (cK (.int 2)) aNil))) (cK (.int 0)))) ρ3 s3 = .ok (decide (d = 0)) s4 := by
      unfold bAnd
      rw [t1, bind_ok]
      exact val_ok (op_ok (x := .int d) (y := .int 0) (draw_call (k := 0) (fun _ => rfl) (fun _ => rfl) e4) rfl eqM_int)
    have at4 := g4.at at3 (by omega) (by omega)
    by_cases hd : d = 0
    · rw [decide_eq_true hd] at t2
      obtain ⟨r, s5, e5, r0, r1, p5, g5⟩ := draw_eq (many := (c : Nat)) p4 (by omega) (by omega)
      obtain ⟨q, rfl⟩ := Int.eq_ofNat_of_zero_le r0
      have at5 := g5.at at4 (by omega) (by omega)
      have hset : setM (.ref s2.length) (.int (q : Nat)) (.int p) s5 = some (s5.set s2.length (.lst (ils ((gaps p b (1 + g) c).set q p)))) := by
        unfold setM
        simp only [at5]
        have hx : L2.ixN (ils (gaps p b (1 + g) c)).length (q : Nat) = some q := by
          unfold L2.ixN
          rw [len_ils, n3, if_pos (by omega), if_pos (by omega), Int.toNat_natCast]
        rw [hx]
        simp [ils]
      have hg : tS (cVar 5) (cCall 2 M__law_draw (aCons (cVar 0) (aCons (cVar 4) aNil))) (.int p) ρ3 s4 = some (ρ3, s5.set s2.length (.lst (ils ((gaps p b (1 + g) c).set q p)))) := by
        have q1 : cVar 5 ρ3 s4 = .ok (.ref s2.length) s4 := rfl
        have q2 : cCall 2 M__law_draw (aCons (cVar 0) (aCons (cVar 4) aNil)) ρ3 s4 = .ok (.int q) s5 := draw_call (k := 0) (fun _ => rfl) (fun _ => rfl) e5
        unfold tS
        simp only [q1, q2, hset, Option.map_some]
      have hv : cVar 3 ρ3 s4 = .ok (.int p) s4 := rfl
      refine ⟨_, _, _, _, _, start _ ((if_t t2).trans (asg_ok hv hg)), List.getElem?_set_self (List.getElem?_eq_some_iff.mp at5).1, ⟨set_nodup n1 hin, fun x hx => ?_, by rw [List.length_set]; omega, by rw [List.length_set]; omega⟩, by omega, by omega, p5.other (by omega) (by omega), ((g3.trans g4).trans g5).setn ?_, by rw [List.length_set]; omega⟩
      · rcases List.mem_or_eq_of_mem_set hx with z | z
        · exact n2 x z
        · omega
      · have := g1.len
        have := g2.len
        omega
    · rw [decide_eq_false hd] at t2
      exact ⟨_, _, s4, _, _, start _ ((if_f t2).trans rfl), at4, ⟨n1, n2, by omega, by omega⟩, by omega, by omega, p4, g3.trans g4, by omega⟩
end

section
variable {i j : Nat} {st s : Sto}
def GrP (x : D) : Prop := ∃ (p n : Int) (pts : List Int), x = gD p n pts ∧ GoodG p n pts ∧ 1 ≤ n ∧ n ≤ 12
def plist : List D := [.int 2, .int 3, .int 5, .int 7, .int 2, .int 3, .int 5, .int 7, .int 11, .int 13, .int 32749, .int 65521]
theorem plist_ok {ρ : En} {st : Sto} : cLst (aCons (cK (.int 2)) (aCons (cK (.int 3)) (aCons (cK (.int 5)) (aCons (cK (.int 7)) (aCons (cK (.int 2)) (aCons (cK (.int 3)) (aCons (cK (.int 5)) (aCons (cK (.int 7)) (aCons (cK (.int 11)) (aCons (cK (.int 13)) (aCons (cK (.int 32749)) (aCons (cK (.int 65521)) aNil)))))))))))) ρ st = .ok (.ref st.length) (st ++ [.lst plist]) := by
  simp [cLst, cK, aCons, aNil, R.bind, small_size, plist]
theorem plist_mem {x : D} (h : x ∈ plist) : ∃ p : Int, x = .int p ∧ PrimeI p := by
  have h2 : x ∈ lawPrimes.map D.int := h
  obtain ⟨p, hp, rfl⟩ := List.mem_map.mp h2
  exact ⟨p, rfl, law_prime hp⟩
theorem plist_flat : ∀ x ∈ plist, x.flat = true := fun x hx => by
  obtain ⟨p, rfl, _⟩ := plist_mem hx
  rfl
theorem plist_len : plist.length = 12 := rfl
theorem g_flat (p n : Int) (pts : List Int) : (gD p n pts).flat = true := by
  unfold gD
  simp [D.flat, D.flats, ils_flat]
theorem ground_eq {most many : Nat} (hk : 1 ≤ most) (hk12 : most ≤ 12) (hm : 1 ≤ many) (hm8 : many ≤ 8) (h0 : Pool i j st) : ∃ x s', M__law_ground [] [.ref i, .int most, .int many] st = .ok x s' ∧ (∃ (p n : Int) (pts : List Int), x = gD p n pts ∧ GoodG p n pts ∧ 1 ≤ n ∧ n ≤ most ∧ pts.length ≤ many) ∧ x.flat = true ∧ Pool i j s' ∧ Grow i j st s' := by
  have li := h0.li
  have lj := h0.lj
  obtain ⟨x, s1, e1, hx, _, p1, g1⟩ := pick_eq (l := st.length) (xs := plist) (h0.app (x := [.lst plist])) (by simp) (by omega) (by omega) (by intro z; have := plist_len; rw [z] at this; cases this) (by rw [plist_len]; omega) plist_flat
  obtain ⟨p, rfl, h2, h3, h4⟩ := plist_mem hx
  clear hx
  have hsm : p < 16 ∨ 16 ≤ p := by omega
  have c1 : cCall 2 M__law_pick (aCons (cVar 0) (aCons (cLst (aCons (cK (.int 2)) (aCons (cK (.int 3)) (aCons (cK (.int 5)) (aCons (cK (.int 7)) (aCons (cK (.int 2)) (aCons (cK (.int 3)) (aCons (cK (.int 5)) (aCons (cK (.int 7)) (aCons (cK (.int 11)) (aCons (cK (.int 13)) (aCons (cK (.int 32749)) (aCons (cK (.int 65521)) aNil))))))))))))) aNil)) [some (.ref i), some (.int most), some (.int many), none, none, none, none, none, none] st = .ok (.int p) s1 :=
    by
      have a1 : cVar 0 [some (.ref i), some (.int most), some (.int many), none, none, none, none, none, none] st = .ok (.ref i) st := rfl
      have a2 := plist_ok (ρ := [some (.ref i), some (.int most), some (.int many), none, none, none, none, none, none]) (st := st)
      generalize (cLst (aCons (cK (.int 2)) (aCons (cK (.int 3)) (aCons (cK (.int 5)) (aCons (cK (.int 7)) (aCons (cK (.int 2)) (aCons (cK (.int 3)) (aCons (cK (.int 5)) (aCons (cK (.int 7)) (aCons (cK (.int 11)) (aCons (cK (.int 13)) (aCons (cK (.int 32749)) (aCons (cK (.int 65521)) aNil))))))))))))) = X at a2 ⊢
      have a12 := args2 a1 a2
      exact call_ok a12 (by simp) e1
  obtain ⟨mm, hmm, hm1, hm2, hm3, hm4⟩ : ∃ mm : Nat, min2M [.int many, .int (p + 1)] s1 = some (.int mm, s1) ∧ 1 ≤ mm ∧ mm ≤ 8 ∧ (mm : Int) ≤ p + 1 ∧ mm ≤ many := by
    by_cases z : (many : Int) ≤ p + 1
    · exact ⟨many, by simp [min2M, minI_eq, z], hm, hm8, z, Nat.le_refl _⟩
    · exact ⟨(p + 1).toNat, by simp [min2M, minI_eq, z]; omega, by omega, by omega, by omega, by omega⟩
  obtain ⟨r, s2, e2, r0, r1, p2, g2⟩ := draw_eq (many := (mm : Nat)) p1 (by omega) (by omega)
  obtain ⟨q, rfl⟩ := Int.eq_ofNat_of_zero_le r0
  have c2 : cOp addM (cK (.int 1)) (cCall 2 M__law_draw (aCons (cVar 0) (aCons (cBi min2M (aCons (cVar 2) (aCons (cOp addM (cVar 3) (cK (.int 1))) aNil))) aNil))) [some (.ref i), some (.int most), some (.int many), some (.int p), none, none, none, none, none] s1 = .ok (.int ((1 + q : Nat) : Int)) s2 :=
    op_ok (x := .int 1) (y := .int q) rfl (call_ok (args2 (x := .ref i) (y := .int mm) (s1 := s1) (s2 := s1) rfl (bi_ok (args2 (x := .int many) (y := .int (p + 1)) (s1 := s1) (s2 := s1) rfl (op_ok (x := .int p) (y := .int 1) rfl rfl rfl)) hmm)) rfl e2) (by simp [addM])
  have t1 : bVal (cOp ltM (cVar 3) (cK (.int 16))) [some (.ref i), some (.int most), some (.int many), some (.int p), some (.int ((1 + q : Nat) : Int)), none, none, none, none] s2 = .ok (decide (p < 16)) s2 := val_ok (op_ok (x := .int p) (y := .int 16) rfl rfl rfl)
  obtain ⟨t, pts, s3, u6, u7, e3, at3, hpts, ti, tj, p3, g3, hlen⟩ : ∃ t pts s' u6 u7, sIf (bVal (cOp ltM (cVar 3) (cK (.int 16)))) ptsThen ptsElse [some (.ref i), some (.int most), some (.int many), some (.int p), some (.int ((1 + q : Nat) : Int)), none, none, none, none] s2 = .nx [some (.ref i), some (.int most), some (.int many), some (.int p), some (.int ((1 + q : Nat) : Int)), some (.ref t), u6, u7, none] s' ∧ s'[t]? = some (.lst (ils pts)) ∧ PtsOk p pts ∧ t ≠ i ∧ t ≠ j ∧ Pool i j s' ∧ Grow i j s2 s' ∧ pts.length ≤ 1 + q := by
    rcases hsm with z | z
    · rw [decide_eq_true z] at t1
      obtain ⟨t, pts, s3, e3, rest⟩ := pts_small (p := p) (c := 1 + q) (u0 := some (.int most)) (u1 := some (.int many)) p2 h2 z (by omega) (by omega) (by omega)
      exact ⟨t, pts, s3, none, none, (if_t t1).trans e3, rest⟩
    · rw [decide_eq_false (by omega)] at t1
      obtain ⟨t, pts, s3, u6, u7, e3, rest⟩ := pts_great (p := p) (c := 1 + q) (u0 := some (.int most)) (u1 := some (.int many)) p2 z h3 (by omega) (by omega)
      exact ⟨t, pts, s3, u6, u7, (if_f t1).trans e3, rest⟩
  obtain ⟨n, s4, e4, n0, n1, p4, g4⟩ := draw_eq (many := (most : Nat)) p3 (by omega) (by omega)
  have at4 := g4.at at3 ti tj
  have good : GoodG p (1 + n) pts := ⟨⟨h2, h3, h4⟩, hpts.2.2.2, hpts.2.2.1, hpts.2.1, eraseDups_len hpts.1⟩
  refine run_pool (m := m__law_ground_b1) h0 ⟨gD p (1 + n) pts, s4, ?_, ⟨p, 1 + n, pts, rfl, good, by omega, by omega, by omega⟩, g_flat _ _ _, p4, Grow.app.trans (g1.trans (g2.trans (g3.trans g4)))⟩
  have c4 : cTup (aCons (cVar 3) (aCons (cOp addM (cK (.int 1)) (cCall 2 M__law_draw (aCons (cVar 0) (aCons (cVar 1) aNil)))) (aCons (cBi tupleM (aCons (cVar 5) aNil)) aNil))) [some (.ref i), some (.int most), some (.int many), some (.int p), some (.int ((1 + q : Nat) : Int)), some (.ref t), u6, u7, none] s3 = .ok (gD p (1 + n) pts) s4 := by
    have a2 : cOp addM (cK (.int 1)) (cCall 2 M__law_draw (aCons (cVar 0) (aCons (cVar 1) aNil))) [some (.ref i), some (.int most), some (.int many), some (.int p), some (.int ((1 + q : Nat) : Int)), some (.ref t), u6, u7, none] s3 = .ok (.int (1 + n)) s4 :=
      op_ok (x := .int 1) (y := .int n) rfl (draw_call (k := 0) (fun _ => rfl) (fun _ => rfl) e4) rfl
    have a3 : cBi tupleM (aCons (cVar 5) aNil) [some (.ref i), some (.int most), some (.int many), some (.int p), some (.int ((1 + q : Nat) : Int)), some (.ref t), u6, u7, none] s4 = .ok (.tup (ils pts)) s4 := bi_ok (args1 (x := .ref t) rfl) (tup_ok at4)
    have a23 := args2 a2 a3
    unfold cTup
    rw [show aCons (cVar 3) (aCons (cOp addM (cK (.int 1)) (cCall 2 M__law_draw (aCons (cVar 0) (aCons (cVar 1) aNil)))) (aCons (cBi tupleM (aCons (cVar 5) aNil)) aNil)) [some (.ref i), some (.int most), some (.int many), some (.int p), some (.int ((1 + q : Nat) : Int)), some (.ref t), u6, u7, none] s3 = .ok [.int p, .int (1 + n), .tup (ils pts)] s4 by
      rw [aCons, show cVar 3 [some (.ref i), some (.int most), some (.int many), some (.int p), some (.int ((1 + q : Nat) : Int)), some (.ref t), u6, u7, none] s3 = .ok (.int p) s3 from rfl, bind_ok, a23, bind_ok], bind_ok, if_pos (small_size (by simp))]
    rfl
  exact (seq_nx (asg_ok c1 rfl)).trans ((seq_nx (asg_ok c2 rfl)).trans ((seq_nx e3).trans (ret_ok c4)))
end

structure Scr (d : D) (st : Sto) (ns : List Int) : Prop where
  len : lenM [d] st = some (.int (ns.length : Nat), st)
  ix : ∀ n r, ns = n :: r → ixM d (.int 0) st = some (.int n, st)
  sl : slM d (some 1) none st = some (.ref st.length, st ++ [.lst (ils (ns.drop 1))])
theorem scr_ref (ns : List Int) : Scr (.ref 0) [.lst (ils ns)] ns := by
  refine ⟨by simp [lenM, itemsOf, ils], fun n r e => by subst e; simp [ixM, ils], ?_⟩
  have := cut_from (ils ns) 1
  unfold slM
  simp only [List.getElem?_cons_zero]
  rw [show (1 : Int) = ((1 : Nat) : Int) from rfl, this]
  simp [ils]
theorem scr_fl (ns : List Int) : Scr (.fl (ils ns)) [] ns := by
  refine ⟨by simp [lenM, itemsOf, ils], fun n r e => by subst e; simp [ixM, ils], ?_⟩
  have := cut_from (ils ns) 1
  unfold slM
  simp only
  rw [show (1 : Int) = ((1 : Nat) : Int) from rfl, this]
  simp [ils]
section
variable {d : D} {st : Sto} {ns : List Int}
theorem mul_two (x : Int) (s : Sto) : mulM (.int 2) (.int x) s = some (.int (2 * x), s) := by
  have : small64b 2 = true := by decide
  simp [mulM, this]
theorem mul_48 (x : Int) (s : Sto) : mulM (.int x) (.int 48271) s = some (.int (x * 48271), s) := by
  have : small64b 48271 = true := by decide
  simp [mulM, this]
theorem pow_18 (s : Sto) : powM (.int 10) (.int 18) s = some (.int 1000000000000000000, s) := rfl
theorem mod_ok {a m : Int} {s : Sto} (h : 0 < m) : modM (.int a) (.int m) s = some (.int (a % m), s) := by
  unfold modM intM
  simp only [decide_eq_true h, if_true]
theorem cif_t {t : Rg.B} {a b : C} {ρ : En} {s s1 : Sto} (h : t ρ s = .ok true s1) : cIf t a b ρ s = a ρ s1 := by unfold cIf; rw [h]; rfl
theorem cif_f {t : Rg.B} {a b : C} {ρ : En} {s s1 : Sto} (h : t ρ s = .ok false s1) : cIf t a b ρ s = b ρ s1 := by unfold cIf; rw [h]; rfl
theorem neg_one {ρ : En} {s : Sto} : cNeg (cK (.int 1)) ρ s = .ok (.int (-1)) s := rfl
theorem pool_eq (h : Scr d st ns) : ∃ i j s', M__law_pool [] [d] st = .ok (.ref i) s' ∧ Pool i j s' := by
  obtain ⟨f, e1⟩ : ∃ f : Int, cIf (bVal (cOp gtM (cBi lenM (aCons (cVar 0) aNil)) (cK (.int 0)))) (cBi toIntM (aCons (cOp ixM (cVar 0) (cK (.int 0))) aNil)) (cK (.int 0)) [some d, none, none] st = .ok (.int f) st := by
    have t1 : bVal (cOp gtM (cBi lenM (aCons (cVar 0) aNil)) (cK (.int 0))) [some d, none, none] st = .ok (decide ((0 : Int) < (ns.length : Nat))) st := val_ok (op_ok (x := .int (ns.length : Nat)) (y := .int 0) (bi_ok (args1 (x := d) rfl) h.len) rfl rfl)
    cases hn : ns with
    | nil =>
      rw [hn] at t1
      exact ⟨0, (cif_f t1).trans rfl⟩
    | cons n r =>
      rw [hn, decide_eq_true (by simp)] at t1
      exact ⟨n, (cif_t t1).trans (bi_ok (args1 (op_ok (x := d) (y := .int 0) rfl rfl (h.ix n r hn))) rfl)⟩
  obtain ⟨z, z0, e2⟩ : ∃ z : Int, 0 ≤ z ∧ cIf (bVal (cOp geM (cVar 1) (cK (.int 0)))) (cOp mulM (cK (.int 2)) (cVar 1)) (cOp subM (cNeg (cK (.int 1))) (cOp mulM (cK (.int 2)) (cVar 1))) [some d, some (.int f), none] st = .ok (.int z) st := by
    have t1 : bVal (cOp geM (cVar 1) (cK (.int 0))) [some d, some (.int f), none] st = .ok (decide (0 ≤ f)) st := val_ok (op_ok (x := .int f) (y := .int 0) rfl rfl rfl)
    by_cases hf : 0 ≤ f
    · rw [decide_eq_true hf] at t1
      exact ⟨2 * f, by omega, (cif_t t1).trans (op_ok (x := .int 2) (y := .int f) rfl rfl (mul_two _ _))⟩
    · rw [decide_eq_false hf] at t1
      exact ⟨-1 - 2 * f, by omega, (cif_f t1).trans (op_ok (x := .int (-1)) (y := .int (2 * f)) neg_one (op_ok (x := .int 2) (y := .int f) rfl rfl (mul_two _ _)) rfl)⟩
  obtain ⟨a, a0, e3⟩ : ∃ a : Int, 0 ≤ a ∧ cIf (bVal (cOp geM (cVar 2) (cOp powM (cK (.int 10)) (cK (.int 18))))) (cVar 2) (cK (.int 0)) [some d, some (.int f), some (.int z)] st = .ok (.int a) st := by
    have t1 : bVal (cOp geM (cVar 2) (cOp powM (cK (.int 10)) (cK (.int 18)))) [some d, some (.int f), some (.int z)] st = .ok (decide (1000000000000000000 ≤ z)) st := val_ok (op_ok (x := .int z) (y := .int 1000000000000000000) rfl (op_ok (x := .int 10) (y := .int 18) rfl rfl (pow_18 _)) rfl)
    by_cases hf : 1000000000000000000 ≤ z
    · rw [decide_eq_true hf] at t1
      exact ⟨z, z0, (cif_t t1).trans rfl⟩
    · rw [decide_eq_false hf] at t1
      exact ⟨0, by omega, (cif_f t1).trans rfl⟩
  have e4 : cOp addM (cOp modM (cBi toIntM (aCons (cOp addM (cOp mulM (cVar 2) (cK (.int 48271))) (cK (.int 1009))) aNil)) (cK (.int 2147483629))) (cK (.int 3)) [some d, some (.int f), some (.int z)] st = .ok (.int ((z * 48271 + 1009) % 2147483629 + 3)) st :=
    op_ok (x := .int ((z * 48271 + 1009) % 2147483629)) (y := .int 3) (op_ok (x := .int (z * 48271 + 1009)) (y := .int 2147483629) (bi_ok (args1 (op_ok (x := .int (z * 48271)) (y := .int 1009) (op_ok (x := .int z) (y := .int 48271) rfl rfl (mul_48 _ _)) rfl rfl)) rfl) rfl (mod_ok (by omega))) rfl rfl
  have e5 : cBi listM (aCons (cSl (cVar 0) (poSome (cK (.int 1))) poNone) aNil) [some d, some (.int f), some (.int z)] st = .ok (.ref (st.length + 1)) (st ++ [.lst (ils (ns.drop 1)), .lst (ils (ns.drop 1))]) := by
    have s1 : cSl (cVar 0) (poSome (cK (.int 1))) poNone [some d, some (.int f), some (.int z)] st = .ok (.ref st.length) (st ++ [.lst (ils (ns.drop 1))]) := by
      show Rg.lift (slM d (some 1) none st) = _
      rw [h.sl, lift_some]
    refine bi_ok (args1 s1) ?_
    simp [listM, itemsOf]
  have b0 : 0 ≤ (z * 48271 + 1009) % 2147483629 + 3 := by have := Int.emod_nonneg (z * 48271 + 1009) (b := 2147483629) (by omega); omega
  have b1 : (z * 48271 + 1009) % 2147483629 + 3 < 4294967296 := by have := Int.emod_lt_of_pos (z * 48271 + 1009) (b := 2147483629) (by omega); omega
  generalize (z * 48271 + 1009) % 2147483629 + 3 = b at e4 b0 b1
  let o : Ob := .lst [.int a, .int b, .ref (st.length + 1)]
  let X : Sto := [.lst (ils (ns.drop 1)), .lst (ils (ns.drop 1)), o]
  have hp : Pool (st.length + 2) (st.length + 1) (st ++ X) := by
    refine ⟨a, b, ns.drop 1, ?_, ?_, by omega, a0, b0, b1⟩
    · rw [List.getElem?_append_right (by omega), show st.length + 2 - st.length = 2 by omega]
      rfl
    · rw [List.getElem?_append_right (by omega), show st.length + 1 - st.length = 1 by omega]
      rfl
  have e6 : cLst (aCons (cIf (bVal (cOp geM (cVar 2) (cOp powM (cK (.int 10)) (cK (.int 18))))) (cVar 2) (cK (.int 0))) (aCons (cOp addM (cOp modM (cBi toIntM (aCons (cOp addM (cOp mulM (cVar 2) (cK (.int 48271))) (cK (.int 1009))) aNil)) (cK (.int 2147483629))) (cK (.int 3))) (aCons (cBi listM (aCons (cSl (cVar 0) (poSome (cK (.int 1))) poNone) aNil)) aNil))) [some d, some (.int f), some (.int z)] st = .ok (.ref (st.length + 2)) (st ++ X) := by
    have q := args2 e4 e5
    unfold cLst
    rw [aCons, e3, bind_ok, q, bind_ok, bind_ok, if_pos (small_size (by simp))]
    simp [X, o]
  have e7 : m__law_pool_b1 [some d, none, none] st = .rt (.ref (st.length + 2)) (st ++ X) := (seq_nx (asg_ok e1 rfl)).trans ((seq_nx (asg_ok e2 rfl)).trans (ret_ok e6))
  have run : M__law_pool [] [d] st = gcR st (.ok (.ref (st.length + 2)) (st ++ X)) := run_rt (m := m__law_pool_b1) e7
  have ho : (st ++ X)[st.length + 2]? = some o := by
    rw [List.getElem?_append_right (by omega), show st.length + 2 - st.length = 2 by omega]
    rfl
  rcases gcR_two ⟨X, rfl⟩ (by omega) ho with g | ⟨_, g⟩
  · exact ⟨_, _, _, run.trans g, hp⟩
  · exfalso
    simp [o, Ob.vals, D.unders, D.under] at g
    omega
end

/-! equal to itself -/
def lay : Nat → D → Bool
  | _, .non => true
  | _, .bl _ => true
  | _, .int _ => true
  | _, .str s => PyData.strOk s
  | n + 1, .tup xs => xs.all (lay n)
  | _, _ => false
theorem lay_py {st : Sto} : ∀ (n m : Nat) (d : D), lay n d = true → n < m → ∃ q, toPy st m d = some q ∧ q.canLay0 = true ∧ q.depth ≤ n
  | n, 0, d, h, hm => by omega
  | n, m + 1, .non, h, hm => ⟨.none, rfl, rfl, by unfold PyData.depth; omega⟩
  | n, m + 1, .bl b, h, hm => ⟨.bool b, rfl, rfl, by unfold PyData.depth; omega⟩
  | n, m + 1, .int b, h, hm => ⟨.int b, rfl, rfl, by unfold PyData.depth; omega⟩
  | n, m + 1, .str b, h, hm => ⟨.str b, rfl, by unfold PyData.canLay0; unfold lay at h; exact h, by unfold PyData.depth; omega⟩
  | 0, m + 1, .tup xs, h, hm => by unfold lay at h; cases h
  | n, m + 1, .ref k, h, hm => by cases n <;> (unfold lay at h; cases h)
  | n, m + 1, .fl xs, h, hm => by cases n <;> (unfold lay at h; cases h)
  | n, m + 1, .wt xs, h, hm => by cases n <;> (unfold lay at h; cases h)
  | n + 1, m + 1, .tup xs, h, hm => by
    have key : ∀ ys : List D, ys.all (lay n) = true → ∃ qs, allPy (toPy st m) ys = some qs ∧ PyData.canLayAll0 qs = true ∧ PyData.depthAll qs ≤ n := by
      intro ys
      induction ys with
      | nil => exact fun _ => ⟨[], rfl, by unfold PyData.canLayAll0; rfl, by unfold PyData.depthAll; omega⟩
      | cons y r ih =>
        intro h
        rw [List.all_cons, Bool.and_eq_true] at h
        obtain ⟨q, e1, e2, e3⟩ := lay_py (st := st) n m y h.1 (by omega)
        obtain ⟨qs, f1, f2, f3⟩ := ih h.2
        exact ⟨q :: qs, by unfold allPy; rw [e1, f1], by unfold PyData.canLayAll0; rw [e2, f2]; rfl, by unfold PyData.depthAll; omega⟩
    unfold lay at h
    obtain ⟨qs, f1, f2, f3⟩ := key xs h
    exact ⟨.tuple qs, by unfold toPy; rw [f1]; rfl, by unfold PyData.canLay0; exact f2, by unfold PyData.depth; omega⟩
theorem self_v {d : D} (h : lay 18 d = true) (st : Sto) : eqM d d st = some (.bl true, st) ∧ neM d d st = some (.bl false, st) := by
  obtain ⟨q, e, h1, h2⟩ := lay_py (st := st) 18 20 d h (by omega)
  have hs : SeqAt.shaped q = true := by
    unfold SeqAt.shaped
    rw [h1]
    simp
    omega
  exact eqM_self e hs
theorem lay_mono : ∀ {n : Nat} {m : Nat} {d : D}, lay n d = true → n ≤ m → lay m d = true
  | n, m, .non, _, _ => by cases m <;> rfl
  | n, m, .bl _, _, _ => by cases m <;> rfl
  | n, m, .int _, _, _ => by cases m <;> rfl
  | n, m, .str s, h, _ => by
    have : PyData.strOk s = true := by cases n <;> (unfold lay at h; exact h)
    cases m <;> (unfold lay; exact this)
  | n, m, .ref _, h, _ => by cases n <;> (unfold lay at h; cases h)
  | n, m, .fl _, h, _ => by cases n <;> (unfold lay at h; cases h)
  | n, m, .wt _, h, _ => by cases n <;> (unfold lay at h; cases h)
  | 0, m, .tup xs, h, _ => by unfold lay at h; cases h
  | n + 1, 0, .tup xs, h, hm => by omega
  | n + 1, m + 1, .tup xs, h, hm => by
    unfold lay at h ⊢
    rw [List.all_eq_true] at h ⊢
    exact fun x hx => lay_mono (h x hx) (by omega)
theorem lay_tup {n : Nat} {xs : List D} (h : ∀ x ∈ xs, lay n x = true) : lay (n + 1) (.tup xs) = true := by
  unfold lay
  exact List.all_eq_true.mpr h
theorem lay_map {α : Type} {n : Nat} {f : α → D} (h : ∀ x, lay n (f x) = true) (xs : List α) : lay (n + 1) (.tup (xs.map f)) = true := lay_tup fun d hd => by
  obtain ⟨x, _, rfl⟩ := List.mem_map.mp hd
  exact h x
theorem lay_bd (a : Option Int) : lay 0 (bd a) = true := by cases a <;> rfl
theorem lay_fate (f : Fate) : lay 1 (fateD f) = true := lay_tup fun d hd => by
  simp at hd
  rcases hd with rfl | rfl <;> exact lay_bd _
theorem lay_row (r : List Fate) : lay 2 (rowD r) = true := lay_map lay_fate r
theorem lay_book (b : List (List Fate)) : lay 3 (bookD b) = true := lay_map lay_row b
theorem lay_ints (ns : List Int) : lay 1 (.tup (ils ns)) = true := lay_map (fun _ => rfl) ns
theorem S_par3 {ρ : En} {st : Sto} {K : RO → Prop} {r : AL} {i j l : Nat} (h : Vc (r ρ st) fun ds s => ∃ x y z, ds = [x, y, z] ∧ K (.nx (((ρ.set i (some x)).set j (some y)).set l (some z)) s)) : Vs (sPar3 i j l r ρ st) K := W_then (h.mono fun ds s ⟨x, y, z, e, h⟩ => by subst e; exact h)
theorem all_bls {bs : List Bool} : (bs.map D.bl) = bs.map D.bl := rfl

/-! what draws -/
section
variable {i j : Nat} {st s : Sto}
theorem Pool.pre (h : Pool i j st) (p : st <+: s) : Pool i j s := by
  obtain ⟨t, rfl⟩ := p
  exact h.app
theorem Grow.pre (p : st <+: s) : Grow i j st s := by
  obtain ⟨t, rfl⟩ := p
  exact Grow.app
theorem run_poolW {mask : List Bool} {n : Nat} {m : S} {fs : List Clo} {ds : List D} {P : D → Prop} (h0 : Pool i j st) (h : Vs (m (startM mask ds n) st) (retK fun d s => P d ∧ d.flat = true ∧ Pool i j s ∧ Grow i j st s)) (hl : ds.length = plains mask := by rfl) :
    ∃ d s', runDef mask n (fun _ => m) fs ds st = .ok d s' ∧ P d ∧ d.flat = true ∧ Pool i j s' ∧ Grow i j st s' := by
  obtain ⟨d, s, ⟨q1, q2, q3, q4⟩, e⟩ := run_wp h hl
  rcases gcR_flat (st := st) (s := s) q2 with g | g
  · exact ⟨d, st, e.trans g, q1, q2, h0, Grow.refl⟩
  · exact ⟨d, s, e.trans g, q1, q2, q3, q4⟩
theorem W_lcP {mi : MI} {own : List Nat} {tgt : T} {me : C} {ρ : En} {Q : D → Sto → Prop} (P : D → Prop)
    (h : Vc (mi ρ st) fun wk s => wk.lk = [] ∧ wk.items.length ≤ 1000 ∧ Pool i j s ∧ Grow i j st s ∧
      (∀ (k : Nat) (d : D), wk.items[k]? = some d → ∀ s2, Pool i j s2 → Grow i j s s2 → ∃ ρ1, tgt d (wipeM ρ own) s2 = some (ρ1, s2) ∧ Vc (me ρ1 s2) fun x s3 => P x ∧ Pool i j s3 ∧ Grow i j s2 s3) ∧
      ∀ (n : Nat) (xs : List D) (s' : Sto), n ≠ i → n ≠ j → st.length ≤ n → s'[n]? = some (.lst xs) → xs.length = wk.items.length → (∀ x ∈ xs, P x) → Pool i j s' → Grow i j st s' → Q (.ref n) s') : Vc (cLc mi own tgt bYes me ρ st) Q := by
  obtain ⟨⟨items, lk⟩, s, e0, e1, e2, p, g, hs, q⟩ := h
  simp only at e1 e2 hs q
  have li := p.li
  have lj := p.lj
  obtain ⟨xs, s', e, h1, h2, h3, h4, h5⟩ := cLc_pool (mi := mi) (own := own) (tgt := tgt) (mt := bYes) (me := me) (ρ := ρ) (st0 := st) (items := items) (lk := lk) (P := P) p e0 e1 (small_size e2) (fun k d hd s2 p2 g2 => by
    obtain ⟨ρ1, r1, x, s3, r2, r3, r4, r5⟩ := hs k d hd s2 p2 g2
    exact ⟨ρ1, r1, rfl, x, s3, r2, r3, r4, r5⟩)
  exact ⟨_, s', e, q _ xs s' (by omega) (by omega) g.len h1 h2 h3 h4 (g.trans h5)⟩
theorem pick_at {l : Nat} {xs : List D} (h0 : Pool i j st) (hx : st[l]? = some (.lst xs)) (h1 : l ≠ i) (h2 : l ≠ j) (hn : 1 ≤ xs.length := by simp) (hz : xs.length ≤ 1000 := by simp) (hf : ∀ x ∈ xs, x.flat = true) :
    ∃ x s', M__law_pick [] [.ref i, .ref l] st = .ok x s' ∧ x ∈ xs ∧ x.flat = true ∧ Pool i j s' ∧ Grow i j st s' := pick_eq h0 hx h1 h2 (by intro z; rw [z] at hn; simp at hn) hz hf
theorem new_ne {n : Nat} (h : Pool i j st) (hn : st.length ≤ n) : n ≠ i ∧ n ≠ j := by
  have := h.li
  have := h.lj
  exact ⟨by omega, by omega⟩
theorem cutTo {α : Type} (xs : List α) {i : Int} (h : 0 ≤ i) : Rg.cutD xs none (some i) = xs.take i.toNat := by
  obtain ⟨k, rfl⟩ := Int.eq_ofNat_of_zero_le h
  rw [cut_to, Int.toNat_natCast]
theorem cutFrom {α : Type} (xs : List α) {i : Int} (h : 0 ≤ i) : Rg.cutD xs (some i) none = xs.drop i.toNat := by
  obtain ⟨k, rfl⟩ := Int.eq_ofNat_of_zero_le h
  rw [cut_from, Int.toNat_natCast]
theorem range_at {n : Int} {k : Nat} {d : D} (h : (rangeL 0 n.toNat)[k]? = some d) : (k : Int) < n ∧ d = .int (k : Nat) := by
  obtain ⟨h1, h2⟩ := rangeL_at h
  refine ⟨by omega, ?_⟩
  rw [h2, Int.zero_add]
end

/-- a loop that changes nothing -/
theorem S_forP {ρ : En} {st : Sto} {K : RO → Prop} {mi : MI} {tgt : T} {A : S} (Sim : En → Prop) (h : Vc (mi ρ st) fun wk s => Sim ρ ∧ okW wk.lk s ∧ (∀ d ∈ wk.items, ∀ ρ', Sim ρ' → ∃ ρ1, tgt d ρ' s = some (ρ1, s) ∧ Vs (A ρ1 s) (loopK (fun ρ2 s2 => Sim ρ2 ∧ s2 = s) K)) ∧ ∀ ρ', Sim ρ' → K (.nx ρ' s)) : Vs (sFor mi tgt A ρ st) K := by
  obtain ⟨wk, s, e, h1, h2, h3, h4⟩ := h
  refine S_for (fun _ ρ' s' => Sim ρ' ∧ s' = s) ⟨wk, s, e, ⟨h1, rfl⟩, fun k ρ s' hj => by rw [hj.2]; exact h2, fun k d ρ' s' hd hj => ?_, fun ρ' s' hj => by rw [hj.2]; exact h4 ρ' hj.1⟩
  obtain ⟨hj, rfl⟩ := hj
  obtain ⟨ρ1, h5, h6⟩ := h3 d (List.mem_of_getElem? hd) ρ' hj
  exact ⟨ρ1, s', h5, h6⟩
theorem okW1 {n : Nat} {xs : List D} {s : Sto} (h : s[n]? = some (.lst xs)) : okW [(n, xs)] s := okW_one.mpr h

theorem okW_pre {lk : List (Nat × List D)} {s s' : Sto} (h : okW lk s) (p : s <+: s') : okW lk s' := fun x hx => pr_at p (h x hx)
/-- a loop that leaves things behind -/
theorem S_forG {ρ : En} {st : Sto} {K : RO → Prop} {mi : MI} {tgt : T} {A : S} (Sim : En → Prop) (h : Vc (mi ρ st) fun wk s => Sim ρ ∧ okW wk.lk s ∧ (∀ d ∈ wk.items, ∀ ρ' s', Sim ρ' → s <+: s' → ∃ ρ1, tgt d ρ' s' = some (ρ1, s') ∧ Vs (A ρ1 s') (loopK (fun ρ2 s2 => Sim ρ2 ∧ s' <+: s2) K)) ∧ ∀ ρ' s', Sim ρ' → s <+: s' → K (.nx ρ' s')) : Vs (sFor mi tgt A ρ st) K := by
  obtain ⟨wk, s, e, h1, h2, h3, h4⟩ := h
  refine S_for (fun _ ρ' s' => Sim ρ' ∧ s <+: s') ⟨wk, s, e, ⟨h1, List.prefix_refl _⟩, fun k ρ s' hj => okW_pre h2 hj.2, fun k d ρ' s' hd hj => ?_, fun ρ' s' hj => h4 ρ' s' hj.1 hj.2⟩
  obtain ⟨hj, hp⟩ := hj
  obtain ⟨ρ1, h5, h6⟩ := h3 d (List.mem_of_getElem? hd) ρ' s' hj hp
  refine ⟨ρ1, s', h5, ?_⟩
  unfold Vs at h6 ⊢
  revert h6
  generalize A ρ1 s' = r
  cases r with
  | nx ρ2 s2 => exact fun h => ⟨h.1, hp.trans h.2⟩
  | ct ρ2 s2 => exact fun h => ⟨h.1, hp.trans h.2⟩
  | bk ρ2 s2 => exact id
  | rt d s2 => exact id
  | ex c d ρ2 s2 => exact id
  | no => exact id

theorem W_filV {mi : MI} {own : List Nat} {tgt : T} {mt : B} {me : C} {ρ : En} {st : Sto} {Q : D → Sto → Prop} (h : Vc (mi ρ st) fun wk s => s = st ∧ okW wk.lk st ∧ wk.items.length ≤ 100000 ∧ ∃ (b : D → Bool) (g : D → D),
    (∀ d ∈ wk.items, ∀ s, st <+: s → ∃ ρ1, tgt d (wipeM ρ own) s = some (ρ1, s) ∧ Vc (mt ρ1 s) fun y s2 => y = b d ∧ s <+: s2 ∧ (b d = true → Vc (me ρ1 s2) fun x s3 => x = g d ∧ s2 <+: s3)) ∧
    ∀ s, st <+: s → s[st.length]? = some (.lst ((wk.items.filter b).map g)) → Q (.ref st.length) s) : Vc (cLc mi own tgt mt me ρ st) Q := by
  obtain ⟨wk, s, e, rfl, h1, h2, b, g, h3, h4⟩ := h
  exact W_fil b g e h1 h2 h3 h4
theorem law_true {m : S} {n : Nat} {d : D} {st : Sto} (h : Vs (m (startM [false] [d] n) st) (retK fun x _ => x = .bl true)) : ∃ s', runDef [false] n (fun _ => m) [] [d] st = .ok (.bl true) s' := by
  obtain ⟨x, s, rfl, e⟩ := run_wp h rfl
  rcases gcR_flat (st := st) (s := s) (d := .bl true) rfl with g | g
  · exact ⟨_, e.trans g⟩
  · exact ⟨_, e.trans g⟩

/-! forms: their weights and values -/
section
variable {st : Sto} {p a x : Int} {j n : Nat}
theorem cut_init' {α : Type} (xs : List α) : Rg.cutD xs none (some (-1)) = xs.take (xs.length - 1) := by
  have h1 : HT.sIx xs.length xs.length (some (-1)) = xs.length - 1 := by
    show (if (-1 : Int) < 0 then ((-1 : Int) + (xs.length : Int)).toNat else min (-1 : Int).toNat xs.length) = xs.length - 1
    rw [if_pos (by decide)]
    omega
  unfold Rg.cutD
  rw [h1, HT.sIx_none, List.drop_zero, Nat.sub_zero]
theorem ils_snoc (ns : List Int) (k : Int) : ils (ns ++ [k]) = ils ns ++ [.int k] := by simp [ils]
theorem at_last (ns : List Int) (k : Int) : atI (ils (ns ++ [k])) (-1) = some (.int k) := by
  rw [ils_snoc]
  exact atI_last
theorem wl_bd (hp : 2 ≤ p) (t : Nat) : 0 ≤ W a j t % p ∧ W a j t % p < p := ⟨Int.emod_nonneg _ (by omega), Int.emod_lt_of_pos _ (by omega)⟩
theorem powers_eq (hp : 2 ≤ p) (hp2 : p ≤ 65521) (hn : 1 ≤ n ∧ n ≤ 1000) (st : Sto) : M_powers [] [.int p, .int a, .int n] st = .ok (.ref st.length) (st ++ [.lst (ils (wl p a 0 n))]) := by
  refine run_new (m := m_powers_b1) (ils_flat _) ?_
  unfold m_powers_b1 m_powers_b2
  walk_at "st"
  walk_at "w"
  intro k s g l at0
  walk_at "w"
  with_reducible refine S_for (fun i ρ s => (∃ u4, ρ = [some (.int p), some (.int a), some (.int n), some (.ref k), u4]) ∧ st <+: s ∧ s[k]? = some (.lst (ils (wl p a 0 (i + 1))))) ?_
  unfold m_powers_for1_it
  walk_at "w"
  refine ⟨⟨⟨_, rfl⟩, g, by rw [at0, wl_one hp]; rfl⟩, fun _ _ _ _ => okW_nil, ?_, ?_⟩
  · rintro i d ρ s1 hd ⟨⟨u4, rfl⟩, g1, at1⟩
    obtain ⟨hi, rfl⟩ := range_at hd
    have a1 : atI (ils (wl p a 0 (i + 1))) (-1) = some (.int (W a 0 i % p)) := by
      rw [wl_succ]
      exact at_last _ _
    have b1 := wl_bd (a := a) (j := 0) hp i
    have hl : (ils (wl p a 0 (i + 1))).length = i + 1 := by simp [ils, wl_len]
    refine ⟨_, _, rfl, ?_⟩
    unfold m_powers_for1_body
    simp only [List.set_cons_zero, List.set_cons_succ]
    walk_at "w"
    refine ⟨⟨_, rfl⟩, pr_set g1 l, ?_⟩
    rw [at_set at1, W0_next, wl_succ (n := i + 1), ils_snoc]
  · rintro ρ s1 ⟨⟨u4, rfl⟩, g1, at1⟩
    rw [show (⟨rangeL 0 ((n : Int) - 1).toNat, []⟩ : Wk).items.length + 1 = n by simp only [rangeL_len]; omega] at at1
    unfold m_powers_b3
    walk_at "w"
    exact ⟨k, rfl, l, at1, g1⟩
theorem later_eq {m : Nat} (hp : 2 ≤ p) (hp2 : p ≤ 65521) (hx : 0 ≤ x ∧ x ≤ 65521) (hn : n ≤ 1000) (hm : st[m]? = some (.lst (ils (wl p x j (n + 1))))) : M_later_weights [] [.int p, .int x, .ref m] st = .ok (.ref st.length) (st ++ [.lst (ils (wl p x (j + 1) (n + 1)))]) := by
  refine run_new (m := m_later_weights_b1) (ils_flat _) ?_
  unfold m_later_weights_b1 m_later_weights_b2
  walk_at "st"
  walk_at "w"
  intro k s g l at0
  have hm1 := pr_at g hm
  walk_at "w"
  have hc : Rg.cutD (ils (wl p x j (n + 1))) none (some (-1)) = ils (wl p x j n) := by
    rw [cut_init', wl_succ, ils_snoc]
    have : (ils (wl p x j n)).length = n := by simp [ils, wl_len]
    rw [List.length_append, this, List.length_singleton, Nat.add_sub_cancel, List.take_left' this]
  with_reducible refine S_for (fun i ρ s1 => (∃ u4, ρ = [some (.int p), some (.int x), some (.ref m), some (.ref k), u4]) ∧ st <+: s1 ∧ s1[k]? = some (.lst (ils (wl p x (j + 1) (i + 1)))) ∧ s1[s.length]? = some (.lst (ils (wl p x j n)))) ?_
  unfold m_later_weights_for1_it
  walk_at "w"
  rw [hc]
  have hk := at_lt at0
  refine ⟨⟨⟨_, rfl⟩, g.trans pr_new, ?_, at_new⟩, fun _ _ _ h => okW1 h.2.2.2, ?_, ?_⟩
  · rw [pr_at pr_new at0, wl_one']
    rfl
  · rintro i d ρ s1 hd ⟨⟨u4, rfl⟩, g1, at1, at2⟩
    simp only [ils, List.getElem?_map] at hd
    obtain ⟨w, hw, rfl⟩ := Option.map_eq_some_iff.mp hd
    have hi : i < n := by
      have := (List.getElem?_eq_some_iff.mp hw).1
      rwa [wl_len] at this
    rw [wl_get hi] at hw
    cases hw
    have a1 : atI (ils (wl p x (j + 1) (i + 1))) (-1) = some (.int (W x (j + 1) i % p)) := by
      rw [wl_succ]
      exact at_last _ _
    have b1 := wl_bd (a := x) (j := j + 1) hp i
    have hl : (ils (wl p x (j + 1) (i + 1))).length = i + 1 := by simp [ils, wl_len]
    refine ⟨_, _, rfl, ?_⟩
    unfold m_later_weights_for1_body
    simp only [List.set_cons_zero, List.set_cons_succ]
    walk_at "w"
    refine ⟨⟨_, rfl⟩, pr_set g1 l, ?_, at_set_ne at2 (by omega)⟩
    rw [at_set at1, W_next, wl_succ (n := i + 1), ils_snoc]
  · rintro ρ s1 ⟨⟨u4, rfl⟩, g1, at1, at2⟩
    rw [show (ils (wl p x j n)).length + 1 = n + 1 by simp [ils, wl_len]] at at1
    unfold m_later_weights_b3
    walk_at "w"
    exact ⟨k, rfl, l, at1, g1⟩
end

/-! values -/
section
variable {st : Sto} {p a x : Int} {j n : Nat} {fs : List Int}
theorem rep_ints (k : Nat) (z : Int) : (List.replicate k [D.int z]).flatten = ils (List.replicate k z) := by
  induction k with
  | zero => rfl
  | succ k ih => rw [List.replicate_succ, List.flatten_cons, ih]; rfl
theorem wl_rep (h : n ≤ j) : wl p a j n = List.replicate n 0 := by
  refine List.eq_replicate_iff.mpr ⟨wl_len, fun b hb => ?_⟩
  unfold wl at hb
  obtain ⟨t, ht, rfl⟩ := List.mem_map.mp hb
  rw [W_zero (by have := List.mem_range.mp ht; omega), Int.zero_emod]
theorem value_weights_eq (hp : 2 ≤ p) (hp2 : p ≤ 65521) (hx : 0 ≤ x ∧ x ≤ p) (hn : 1 ≤ n ∧ n ≤ 1000) (hj : j ≤ 100000) (st : Sto) : M_value_weights [] [.int p, .int n, .int x, .int j] st = .ok (.tup (ils (vw p n x j))) st := by
  refine run_val (m := m_value_weights_b1) (by unfold D.flat; exact ils_flat _) ?_
  unfold m_value_weights_b1
  walk_at "st"
  with_reducible refine S_seq ?_
  walk_at "w"
  refine BR_d (fun c => ?_) (fun c => ?_)
  · subst c
    walk_at "w"
    refine W_map (List.range n) (fun t => .int (0 + (t : Nat))) (fun t => .int (if t + j + 1 = n then 1 else 0)) ?_ (by simp; omega) (fun t ht s2 g => ?_) (fun s2 g hat => ?_)
    · unfold m_value_weights_lc1_it
      walk_at "w"
      exact okW_nil
    · refine ⟨_, rfl, ?_⟩
      unfold m_value_weights_lc1_elt
      simp only [wipeM, List.set_cons_zero, List.set_cons_succ]
      walk_at "w"
      refine BR_d (fun c => ?_) (fun c => ?_)
      · rw [if_pos (by omega)]
        walk_at "w"
      · rw [if_neg (by omega)]
        walk_at "w"
    · walk_at "w"
      refine ⟨?_, g⟩
      unfold vw
      rw [if_pos rfl, ils, List.map_map]
      rfl
  · walk_at "w"
    unfold m_value_weights_b2
    with_reducible refine S_seq ?_
    walk_at "w"
    refine BR_d (fun c2 => ?_) (fun c2 => ?_)
    · walk_at "w"
      rw [rep_ints, Int.toNat_natCast]
      unfold vw
      rw [if_neg c, wl_rep (by omega)]
      exact ⟨rfl, List.prefix_refl _⟩
    · have e1 := powers_eq (a := x) hp hp2 hn st
      walk_at "w"
      unfold m_value_weights_b3
      walk_at "w"
      unfold m_value_weights_b4
      with_reducible refine S_seq ?_
      with_reducible refine S_for (fun i ρ s1 => (∃ k u5 u6, ρ = [some (.int p), some (.int n), some (.int x), some (.int j), some (.ref k), u5, u6] ∧ s1[k]? = some (.lst (ils (wl p x i n)))) ∧ st <+: s1) ?_
      unfold m_value_weights_for1_it
      walk_at "w"
      refine ⟨⟨⟨_, _, _, rfl, at_new⟩, pr_new⟩, fun _ _ _ _ => okW_nil, ?_, ?_⟩
      · rintro i d ρ s1 hd ⟨⟨k, u5, u6, rfl, at1⟩, g1⟩
        obtain ⟨m, rfl⟩ : ∃ m, n = m + 1 := ⟨n - 1, by omega⟩
        have e2 := later_eq hp hp2 ⟨hx.1, by omega⟩ (by omega) at1
        refine ⟨_, _, rfl, ?_⟩
        unfold m_value_weights_for1_body
        simp only [List.set_cons_zero, List.set_cons_succ]
        walk_at "w"
        exact ⟨⟨_, _, _, rfl, at_new⟩, g1.trans pr_new⟩
      · rintro ρ s1 ⟨⟨k, u5, u6, rfl, at1⟩, g1⟩
        rw [show (⟨rangeL 0 ((j : Nat) : Int).toNat, []⟩ : Wk).items.length = j by simp only [rangeL_len]; omega] at at1
        unfold m_value_weights_b5
        walk_at "w"
        refine ⟨?_, g1⟩
        unfold vw
        rw [if_neg c]
theorem zip_ints : ∀ (xs ys : List Int), zipL (ils xs) (ils ys) = (xs.zip ys).map fun z => .wt [.int z.1, .int z.2]
  | [], ys => by simp [zipL, ils]
  | _ :: _, [] => by simp [zipL, ils]
  | x :: xs, y :: ys => by
    have := zip_ints xs ys
    simp only [ils] at this
    simp [zipL, ils, this]
theorem value_eq (hp : 2 ≤ p) (hp2 : p ≤ 65521) (hx : 0 ≤ x ∧ x ≤ p) (hn : 1 ≤ fs.length ∧ fs.length ≤ 1000) (hj : j ≤ 100000) (st : Sto) : M_value [] [.int p, .tup (ils fs), .int x, .int j] st = .ok (.int (valZ p fs x j)) st := by
  have hl : (ils fs).length = fs.length := by simp [ils]
  refine run_val (m := m_value_b1) rfl ?_
  unfold m_value_b1
  walk_at "st"
  walk_at "w"
  rw [hl]
  have e1 := value_weights_eq (n := fs.length) hp hp2 hx hn hj st
  walk_at "w"
  unfold m_value_b2
  walk_at "w"
  have hz : ((fs.zip (vw p fs.length x j)).length ≤ 1000) := by rw [List.length_zip, vw_len]; omega
  refine W_map (fs.zip (vw p fs.length x j)) (fun z => .wt [.int z.1, .int z.2]) (fun z => .int (z.1 * z.2)) ?_ (by omega) (fun z hz s2 g => ?_) (fun s2 g hat => ?_)
  · unfold m_value_lc1_it
    walk_at "w"
    exact ⟨zip_ints _ _, okW_nil⟩
  · have h2 := (List.of_mem_zip hz).2
    obtain ⟨i, hi⟩ := List.mem_iff_getElem?.mp h2
    have b := vw_bd hp hi
    refine ⟨_, rfl, ?_⟩
    unfold m_value_lc1_elt
    simp only [wipeM, List.set_cons_zero, List.set_cons_succ]
    walk_at "w"
  · have hat2 : s2[st.length]? = some (.lst (((fs.zip (vw p fs.length x j)).map fun z => z.1 * z.2).map D.int)) := by
      rw [hat, List.map_map]
      rfl
    walk_at "w"
    refine ⟨?_, g⟩
    unfold valZ
    rw [← dot_sum]
    congr 3
    rw [List.zip, List.map_zipWith]
/-! batches and rows -/
def okBt (p : Int) (n : Nat) (fs : List Int) : Prop := fs.length = n ∧ ∀ y ∈ fs, 0 ≤ y ∧ y < p
variable {pts : List Int}
theorem batch_fault_eq (h : GoodG p n pts) (hb : okBt p n fs) (st : Sto) : M_batch_fault [] [gD p n pts, .tup (ils fs)] st = .ok .non st := by
  have e := tuple_fault_eq (φ := lamM 1 0 [some (.int p)] m_batch_fault_lam1) (f := numB (p - 1)) (xs := ils fs) (l := n) (m := n) (st := st) fun _ y hy => by
    obtain ⟨i, _, rfl⟩ := List.mem_map.mp hy
    simp [runDef, plains, startM, outR, sRet, sSeq, sIf, sAsg, sNext, sExpr, sRaise, sRetN, sAug, sPar, thenS, tN, cVar, cK, cOp, cIf, cAnd, cOr, cNot, cNotT, cNeg, cChain, cTup, cLst, cBi, cCall, cCallF, cCallP, cIsi,   aNil, aCons, afNil, afCons, afDef, afSlot, afLam, bVal, bTru, bAnd, bOr, bNot, R.bind, lift, isM, isNotM, isB, leM, ltM, geM, gtM, intM, subM, modM, divM, mulM, addM, ixM, truM, tyName, isiT, itemsOf, lenM, iaddM, isubM, min2M, max2M, eqM_int, neM_int, small_size, small_size2, lamM, lamEn, m_batch_fault_lam1, number_between_int, numB]
  have e2 : inLen (ils fs) n n = true := by
    unfold inLen
    rw [List.length_map, hb.1]
    simp
  have e3 : firstBad (numB (p - 1)) 0 (ils fs) = none := firstBad_none fun y hy => by
    obtain ⟨i, hi, rfl⟩ := List.mem_map.mp hy
    have := hb.2 i hi
    have h1 : i ≤ p - 1 := by omega
    simp [numB, this.1, h1]
  rw [e2, e3] at e
  refine run_val (m := m_batch_fault_b1) rfl ?_
  unfold m_batch_fault_b1 m_batch_fault_b2
  walk_at "st"
  with_reducible refine S_seq ?_
  with_reducible refine S_asg ?_
  walk_at "w"
  refine ⟨_, _, rfl, ?_⟩
  walk_at "w"
theorem made_batch_eq (h : GoodG p n pts) (hn : 1 ≤ n ∧ n ≤ 12) (hb : okBt p n fs) (st : Sto) : M_made_batch [] [gD p n pts, .tup (ils fs)] st = .ok (.tup (ils fs)) st := by
  have e1 := made_ground_eq h st
  rw [if_pos ⟨by omega, by omega⟩] at e1
  have e2 := batch_fault_eq h hb st
  refine run_val (m := m_made_batch_b1) (by unfold D.flat; exact ils_flat _) ?_
  unfold m_made_batch_b1 m_made_batch_b2 m_made_batch_b3
  walk_at "st"
  walk_at "w"
theorem point_of_eq {i : Nat} (hi : pts[i]? = some x) (st : Sto) : M_point_of [] [gD p n pts, .int i] st = .ok (.int x) st := by
  have hl := (List.getElem?_eq_some_iff.mp hi).1
  have e1 := number_between_int i 0 ((pts.length : Int) - 1) st
  rw [decide_eq_true (show (0 : Int) ≤ i by omega), decide_eq_true (show (i : Int) ≤ (pts.length : Int) - 1 by omega), Bool.and_self] at e1
  have al : (ils pts).length = pts.length := by simp [ils]
  have e2 : M_shelf_fits [] [gD p n pts, .int i] st = .ok (.bl true) st := by
    refine run_val (m := m_shelf_fits_b1) rfl ?_
    unfold m_shelf_fits_b1
    walk_at "st"
    walk_at "w"
    rw [al]
    walk_at "w"
  have e3 : M_made_shelf [] [gD p n pts, .int i] st = .ok (.int i) st := by
    refine run_val (m := m_made_shelf_b1) rfl ?_
    unfold m_made_shelf_b1 m_made_shelf_b2
    walk_at "st"
    walk_at "w"
  have a1 : atI (ils pts) (i : Nat) = some (.int x) := atI_nat (by rw [ils, List.getElem?_map, hi]; rfl)
  refine run_val (m := m_point_of_b1) rfl ?_
  unfold m_point_of_b1
  walk_at "st"
  walk_at "w"
theorem row_eqF {i many : Nat} (h : GoodG p n pts) (hn : 1 ≤ n ∧ n ≤ 12) (hb : okBt p n fs) (hi : pts[i]? = some x) (hm : many ≤ 1000) (st : Sto) :
    M_row [] [gD p n pts, .tup (ils fs), .int i, .int many] st = .ok (.tup (ils ((List.range many).map fun j => valZ p fs x j))) st := by
  have e1 := made_batch_eq h hn hb st
  have e2 := point_of_eq (p := p) (n := n) hi st
  have e3 := number_between_int many 0 1024 st
  rw [decide_eq_true (show (0 : Int) ≤ many by omega), decide_eq_true (show (many : Int) ≤ 1024 by omega), Bool.and_self] at e3
  have hx := h.2.2.2.1 x (List.mem_of_getElem? hi)
  refine run_val (m := m_row_b1) (by unfold D.flat; exact ils_flat _) ?_
  unfold m_row_b1 m_row_b2 m_row_b3 m_row_b4
  walk_at "st"
  walk_at "w"
  refine W_map (List.range many) (fun t => .int (0 + (t : Nat))) (fun j => .int (valZ p fs x j)) ?_ (by simp; omega) (fun t ht s2 g => ?_) (fun s2 g hat => ?_)
  · unfold m_row_lc1_it
    walk_at "w"
    exact okW_nil
  · have e4 := value_eq (fs := fs) (j := t) h.1.1 h.1.2.1 hx (by rw [hb.1]; omega) (by have := List.mem_range.mp ht; omega) s2
    rw [Int.zero_add]
    refine ⟨_, rfl, ?_⟩
    unfold m_row_lc1_elt
    simp only [wipeM, List.set_cons_zero, List.set_cons_succ]
    walk_at "w"
  · walk_at "w"
    refine ⟨?_, g⟩
    rw [ils, List.map_map]
    rfl
theorem cell_eqF {i : Nat} (h : GoodG p n pts) (hn : 1 ≤ n ∧ n ≤ 12) (hb : okBt p n fs) (hi : pts[i]? = some x) (hj : j ≤ 1023) (st : Sto) :
    M_cell [] [gD p n pts, .tup (ils fs), .int i, .int j] st = .ok (.int (valZ p fs x j)) st := by
  have e1 := made_batch_eq h hn hb st
  have e2 := point_of_eq (p := p) (n := n) hi st
  have e3 := number_between_int j 0 (1024 - 1) st
  rw [decide_eq_true (show (0 : Int) ≤ j by omega), decide_eq_true (show (j : Int) ≤ 1024 - 1 by omega), Bool.and_self] at e3
  have hx := h.2.2.2.1 x (List.mem_of_getElem? hi)
  have e4 := value_eq (fs := fs) (j := j) h.1.1 h.1.2.1 hx (by rw [hb.1]; omega) (by omega) st
  refine run_val (m := m_cell_b1) rfl ?_
  unfold m_cell_b1 m_cell_b2 m_cell_b3 m_cell_b4
  walk_at "st"
  walk_at "w"
end

/-! the written-out form; drawn batches -/
section
variable {ρ : En} {st : Sto} {K : RO → Prop}
theorem S_asgI {m o i : C} (h : Vc (m ρ st) fun d s => Vc (o ρ s) fun x s1 => Vc (i ρ s1) fun y s2 => ∃ s3, setM x y d s2 = some s3 ∧ K (.nx ρ s3)) : Vs (sAsg m (tS o i) ρ st) K := by
  refine S_asg (h.mono fun d s h => ?_)
  obtain ⟨x, s1, e1, y, s2, e2, s3, e3, k⟩ := h
  refine ⟨ρ, s3, ?_, k⟩
  unfold tS
  simp only [e1, e2, e3, Option.map_some]
theorem setM_nat {n q : Nat} {xs : List D} {v : D} {s : Sto} (h : s[n]? = some (.lst xs)) (hq : q < xs.length) : setM (.ref n) (.int (q : Nat)) v s = some (s.set n (.lst (xs.set q v))) := by
  unfold setM
  simp only [h]
  have hx : L2.ixN xs.length (q : Nat) = some q := by
    unfold L2.ixN
    rw [if_pos (by omega), if_pos (by omega), Int.toNat_natCast]
  rw [hx]
  rfl
end
def wo (p x : Int) (fs : List Int) : List Int := if x = p then fs.reverse else wr p x fs
section
variable {st : Sto} {p a x : Int} {j n : Nat} {fs pts : List Int}
theorem rev_ils (ns : List Int) : (ils ns).reverse = ils ns.reverse := (List.map_reverse).symm
theorem ils_set (ns : List Int) (k : Nat) (v : Int) : (ils ns).set k (.int v) = ils (ns.set k v) := by simp [ils, List.map_set]
theorem written_out_eq (hp : 2 ≤ p) (hp2 : p ≤ 65521) (hx : 0 ≤ x ∧ x ≤ p) (hn : fs.length ≤ 1000) (st : Sto) : M__law_written_out [] [.int p, .tup (ils fs), .int x] st = .ok (.ref st.length) (st ++ [.lst (ils (wo p x fs))]) := by
  refine run_new (m := m__law_written_out_b1) (ils_flat _) ?_
  unfold m__law_written_out_b1
  walk_at "st"
  with_reducible refine S_seq ?_
  walk_at "w"
  refine BR_d (fun c => ?_) (fun c => ?_)
  · walk_at "w"
    rw [rev_ils]
    refine ⟨_, rfl, Nat.le_refl _, ?_, pr_new⟩
    rw [at_new, wo, if_pos c]
  · walk_at "w"
    unfold m__law_written_out_b2
    walk_at "w"
    intro k0 s0 g0 l0 at0
    walk_at "w"
    unfold m__law_written_out_b3
    with_reducible refine S_seq ?_
    with_reducible refine S_for (fun i ρ s1 => (∃ k u4 u5 u6, ρ = [some (.int p), some (.tup (ils fs)), some (.int x), some (.ref k), u4, u5, u6] ∧ st.length ≤ k ∧ s1[k]? = some (.lst (ils (wr p x (fs.reverse.take i).reverse)))) ∧ st <+: s1) ?_
    unfold m__law_written_out_for1_it
    walk_at "w"
    rw [rev_ils]
    refine ⟨⟨⟨_, _, _, _, rfl, l0, at0⟩, g0⟩, fun _ _ _ _ => okW_nil, ?_, ?_⟩
    · rintro i d ρ s1 hd ⟨⟨k, u4, u5, u6, rfl, l1, at1⟩, g1⟩
      simp only [ils, List.getElem?_map] at hd
      obtain ⟨f, hf, rfl⟩ := Option.map_eq_some_iff.mp hd
      have hil := (List.getElem?_eq_some_iff.mp hf).1
      have ht : (fs.reverse.take (i + 1)).reverse = f :: (fs.reverse.take i).reverse := by
        rw [List.take_succ, hf]
        simp
      have hgl : (fs.reverse.take i).reverse.length = i := by
        rw [List.length_reverse, List.length_take, Nat.min_eq_left (by omega)]
      generalize (fs.reverse.take i).reverse = g at *
      rw [List.length_reverse] at hil
      refine ⟨_, _, rfl, ?_⟩
      unfold m__law_written_out_for1_body
      simp only [List.set_cons_zero, List.set_cons_succ]
      have hl : (ils (wr p x g)).length = i := by simp [ils, wr_len, hgl]
      walk_at "w"
      intro k2 s2 g2 l2 at2
      have at12 := pr_at g2 at1
      walk_at "w"
      refine O_catR at12 at2 (by rw [hl]; simp; omega) ?_
      walk_at "w"
      have hcat : ils (wr p x g) ++ [D.int 0] = ils (wr p x g ++ [0]) := (ils_snoc _ _).symm
      rw [hcat]
      have at3 : (s2 ++ [.lst (ils (wr p x g ++ [0]))])[s2.length]? = some (.lst (ils (wr p x g ++ [0]))) := at_new
      refine W_map (List.range (i + 1)) (fun t => .int (0 + (t : Nat))) (fun t => .int (nxt p x g t)) ?_ (by simp; omega) (fun t ht s3 g3 => ?_) (fun s3 g3 hat => ?_)
      · unfold m__law_written_out_lc1_it
        walk_at "w"
        rw [show (ils (wr p x g ++ [0])).length = i + 1 by simp [ils, wr_len, hgl]]
        walk_at "w"
        exact okW_nil
      · have ht := List.mem_range.mp ht
        have at4 := pr_at g3 at3
        rw [Int.zero_add]
        have a1 : atI (ils (wr p x g ++ [0])) (t : Nat) = some (.int (dW x t g 0 % p)) := atI_nat (by rw [ils, List.getElem?_map, wr_get (by omega)]; rfl)
        refine ⟨_, rfl, ?_⟩
        unfold m__law_written_out_lc1_elt
        simp only [wipeM, List.set_cons_zero, List.set_cons_succ]
        walk_at "w"
        refine BR_d (fun c2 => ?_) (fun c2 => ?_)
        · obtain ⟨q, rfl⟩ : ∃ q, t = q + 1 := ⟨t - 1, by omega⟩
          have a2 : atI (ils (wr p x g ++ [0])) (((q + 1 : Nat) : Int) - 1) = some (.int (dW x q g 0 % p)) := by
            rw [show ((q + 1 : Nat) : Int) - 1 = (q : Nat) by omega]
            exact atI_nat (by rw [ils, List.getElem?_map, wr_get (by omega)]; rfl)
          walk_at "w"
        · obtain rfl : t = 0 := by omega
          walk_at "w"
      · have hat2 : s3[(s2 ++ [Ob.lst (ils (wr p x g ++ [0]))]).length]? = some (.lst (ils ((List.range (i + 1)).map fun t => nxt p x g t))) := by
          rw [hat, ils, List.map_map]
          rfl
        generalize hkk : (s2 ++ [Ob.lst (ils (wr p x g ++ [0]))]).length = kk at hat2
        have a0 : atI (ils ((List.range (i + 1)).map fun t => nxt p x g t)) 0 = some (.int (nxt p x g 0)) := by
          show atI _ ((0 : Nat) : Int) = _
          exact atI_nat (by simp [ils])
        walk_at "w"
        with_reducible refine S_asgI ?_
        walk_at "w"
        refine ⟨_, setM_nat (q := 0) hat2 (by simp [ils]), ?_⟩
        walk_at "w"
        have hg3 : st <+: s3 := ((g1.trans g2).trans pr_new).trans g3
        have hk3 : st.length ≤ kk := by rw [← hkk]; exact pr_len ((g1.trans g2).trans pr_new)
        refine ⟨⟨_, _, _, _, rfl, hk3, ?_⟩, pr_set hg3 hk3⟩
        have hw := wr_next (p := p) (a := x) (f := f) (g := g)
        rw [hgl] at hw
        rw [at_set hat2, ils_set, hw, ht]
    · rintro ρ s1 ⟨⟨k, u4, u5, u6, rfl, l1, at1⟩, g1⟩
      simp only [ils, List.length_map, List.take_length, List.reverse_reverse] at at1
      unfold m__law_written_out_b4
      walk_at "w"
      refine ⟨k, rfl, l1, ?_, g1⟩
      rw [at1, wo, if_neg c]
end
section
variable {i j : Nat} {st : Sto} {p : Int} {n : Nat} {pts : List Int}
theorem law_batch_eq (hp : 2 ≤ p) (hp2 : p ≤ 65521) (hn : 1 ≤ n ∧ n ≤ 12) (h0 : Pool i j st) :
    ∃ d s', M__law_batch [] [.ref i, gD p n pts] st = .ok d s' ∧ (∃ fs, d = .tup (ils fs) ∧ okBt p n fs) ∧ d.flat = true ∧ Pool i j s' ∧ Grow i j st s' := by
  refine run_poolW (m := m__law_batch_b1) h0 ?_
  unfold m__law_batch_b1
  walk_at "st"
  with_reducible refine S_seq ?_
  with_reducible refine S_asg ?_
  walk_at "w"
  refine ⟨_, _, rfl, ?_⟩
  walk_at "w"
  unfold m__law_batch_b2
  obtain ⟨v, s1, e1, v0, v1, p1, g1⟩ := draw_eq (many := 4) h0 (by omega) (by omega)
  with_reducible refine S_seq ?_
  walk_at "w"
  refine BR_d (fun c => ?_) (fun c => ?_)
  · walk_at "w"
    refine W_lcP (i := i) (j := j) (fun x => ∃ y, x = .int y ∧ 0 ≤ y ∧ y < p) ?_
    unfold m__law_batch_lc1_it
    walk_at "w"
    refine ⟨by rw [rangeL_len]; omega, p1, Grow.refl, fun k d hd s3 p3 g3 => ?_, fun nr xs s3 ni nj _ at3 hl hx p3 g3 => ?_⟩
    · obtain ⟨y, s4, e4, y0, y1, p4, g4⟩ := draw_eq (many := p) p3 (by omega) (by omega)
      refine ⟨_, rfl, ?_⟩
      unfold m__law_batch_lc1_elt
      simp only [wipeM, List.set_cons_zero, List.set_cons_succ]
      walk_at "w"
      exact ⟨⟨_, rfl, y0, y1⟩, p4, g4⟩
    · obtain ⟨fs, rfl, hf⟩ := list_choose (g := D.int) (Q := fun y => 0 ≤ y ∧ y < p) hx
      walk_at "w"
      refine ⟨⟨fs, rfl, ?_, hf⟩, by unfold D.flat; exact ils_flat _, p3, g1.trans g3⟩
      simp only [List.length_map, rangeL_len] at hl
      omega
  · walk_at "w"
    unfold m__law_batch_b3
    obtain ⟨w, s2, e2, w0, w1, p2, g2⟩ := draw_eq (many := (n : Nat)) p1 (by omega) (by omega)
    walk_at "w"
    unfold m__law_batch_b4
    walk_at "w"
    refine W_map (List.range n) (fun t => .int (0 + (t : Nat))) (fun t => .int (if (t : Int) = w then p - 1 else 0)) ?_ (by simp; omega) (fun t ht s3 g3 => ?_) (fun s3 g3 hat => ?_)
    · unfold m__law_batch_lc2_it
      walk_at "w"
      exact okW_nil
    · rw [Int.zero_add]
      refine ⟨_, rfl, ?_⟩
      unfold m__law_batch_lc2_elt
      simp only [wipeM, List.set_cons_zero, List.set_cons_succ]
      walk_at "w"
      refine BR_d (fun c2 => ?_) (fun c2 => ?_)
      · rw [if_pos c2]
        walk_at "w"
      · rw [if_neg c2]
        walk_at "w"
    · have hat2 : s3[s2.length]? = some (.lst (ils ((List.range n).map fun t : Nat => if (t : Int) = w then p - 1 else 0))) := by
        rw [hat, ils, List.map_map]
        rfl
      walk_at "w"
      refine ⟨⟨_, rfl, by simp, fun y hy => ?_⟩, by unfold D.flat; exact ils_flat _, p2.pre g3, (g1.trans g2).trans (Grow.pre g3)⟩
      obtain ⟨t, _, rfl⟩ := List.mem_map.mp hy
      split <;> omega
end

/-! equations of cells -/
section
variable {st : Sto} {p x : Int} {n : Nat} {fs pts : List Int} {c : Str} {v : D} {φ : Clo}
theorem wo_val (hb : okBt p n fs) : wo p x fs = (List.range n).map fun j => valZ p fs x j := by
  unfold wo
  split
  · rename_i z
    rw [z, rev_val hb.2, hb.1]
  · rename_i z
    rw [wr_val z, hb.1]
theorem law_cell_eq {i j : Nat} (h : GoodG p n pts) (hn : 1 ≤ n ∧ n ≤ 12) (hb : okBt p n fs) (hi : pts[i]? = some x) (hj : j < n) (st : Sto) : M__law_cell [] [gD p n pts, .tup (ils fs), .int i, .int j] st = .ok (.int (valZ p fs x j)) st := by
  have hx := h.2.2.2.1 x (List.mem_of_getElem? hi)
  have e1 := written_out_eq (fs := fs) h.1.1 h.1.2.1 hx (by rw [hb.1]; omega) st
  rw [wo_val hb] at e1
  have a1 : atI (ils pts) (i : Nat) = some (.int x) := atI_nat (by rw [ils, List.getElem?_map, hi]; rfl)
  have a2 : atI (ils ((List.range n).map fun j => valZ p fs x j)) (j : Nat) = some (.int (valZ p fs x j)) := atI_nat (by rw [ils, List.getElem?_map, List.getElem?_map, List.getElem?_range hj]; rfl)
  have al : (ils ((List.range n).map fun j => valZ p fs x j)).length = n := by simp [ils]
  refine run_val (m := m__law_cell_b1) rfl ?_
  unfold m__law_cell_b1
  walk_at "st"
  walk_at "w"
  unfold m__law_cell_b2
  walk_at "w"
  exact pr_new
theorem at_ints {t : Nat} (h : t < fs.length) : atI (ils fs) (t : Nat) = some (.int (fs.getD t 0)) := atI_nat (by rw [ils, List.getElem?_map, List.getElem?_eq_getElem h, List.getD_eq_getElem?_getD, List.getElem?_eq_getElem h]; rfl)
theorem gD_made (h : GoodG p n pts) (hn : 1 ≤ n ∧ n ≤ 12) (st : Sto) : M_made_ground [] [gD p n pts] st = .ok (gD p n pts) st := by
  have e1 := made_ground_eq h st
  rwa [if_pos ⟨by omega, by omega⟩] at e1
theorem equation_eq {i j : Nat} (h : GoodG p n pts) (hn : 1 ≤ n ∧ n ≤ 12) (hi : pts[i]? = some x) (hj : j ≤ 1023) (st : Sto) : M_equation [] [gD p n pts, .int i, .int j] st = .ok (.tup (ils (vw p n x j))) st := by
  have e1 := gD_made h hn st
  have e2 := point_of_eq (p := p) (n := n) hi st
  have e3 := number_between_int j 0 (1024 - 1) st
  rw [decide_eq_true (show (0 : Int) ≤ j by omega), decide_eq_true (show (j : Int) ≤ 1024 - 1 by omega), Bool.and_self] at e3
  have hx := h.2.2.2.1 x (List.mem_of_getElem? hi)
  have e4 := value_weights_eq (n := n) (j := j) h.1.1 h.1.2.1 hx (by omega) (by omega) st
  refine run_val (m := m_equation_b1) (by unfold D.flat; exact ils_flat _) ?_
  unfold m_equation_b1
  walk_at "st"
  with_reducible refine S_seq ?_
  with_reducible refine S_asg ?_
  walk_at "w"
  refine ⟨_, _, rfl, ?_⟩
  walk_at "w"
  unfold m_equation_b2 m_equation_b3 m_equation_b4
  walk_at "w"
/-! refusals -/
theorem equation_ground (h : GoodG p n pts) (a b : D) (st : Sto) : M_equation [] [gD p 13 pts, a, b] st = .ex "BadGround" (.int 1) st := by
  have h' : GoodG p 13 pts := h
  have e1 := made_ground_eq h' st
  rw [if_neg (by omega)] at e1
  refine run_ex (m := m_equation_b1) rfl ?_
  unfold m_equation_b1
  walk_at "st"
  with_reducible refine S_seq ?_
  refine S_asgX ?_
  refine X_call ?_
  walk_at "w"
  exact X_of e1 ⟨rfl, rfl, List.prefix_refl _⟩
theorem point_of_bad {d : D} (hv : D.val d = true) (hb : btw 0 ((pts.length : Int) - 1) d = false) (st : Sto) : M_point_of [] [gD p n pts, d] st = .ex "BadShelf" d st := by
  have hf := D.val_flat hv
  have e1 := btw_v hv 0 ((pts.length : Int) - 1) st
  rw [hb] at e1
  have al : (ils pts).length = pts.length := by simp [ils]
  have e2 : M_shelf_fits [] [gD p n pts, d] st = .ok (.bl false) st := by
    refine run_val (m := m_shelf_fits_b1) rfl ?_
    unfold m_shelf_fits_b1
    walk_at "st"
    walk_at "w"
    rw [al]
    walk_at "w"
  have e3 : M_made_shelf [] [gD p n pts, d] st = .ex "BadShelf" d st := by
    refine run_ex (m := m_made_shelf_b1) hf ?_
    unfold m_made_shelf_b1 m_made_shelf_b2
    walk_at "st"
    walk_at "w"
  have ea : ∀ ρ : En, ρ = [some (gD p n pts), some d] → cOp ixM (cOp ixM (cVar 0) (cK (.int 2))) (cCall 2 M_made_shelf (aCons (cVar 0) (aCons (cVar 1) aNil))) ρ st = .ex "BadShelf" d st := by
    rintro ρ rfl
    have : cCall 2 M_made_shelf (aCons (cVar 0) (aCons (cVar 1) aNil)) [some (gD p n pts), some d] st = .ex "BadShelf" d st := by
      unfold cCall aCons cVar aNil
      show (if [gD p n pts, d].length = 2 then M_made_shelf [] [gD p n pts, d] st else Rg.R.no) = _
      rw [if_pos (show [gD p n pts, d].length = 2 from rfl), e3]
    unfold cOp
    show (Rg.R.bind _ fun x s => Rg.R.bind _ fun y s2 => _) = _
    have h1 : (((cVar 0 [some (gD p n pts), some d] st).bind fun x s => (cK (.int 2) [some (gD p n pts), some d] s).bind fun y s2 => Rg.lift (ixM x y s2))) = .ok (.tup (ils pts)) st := rfl
    rw [h1]
    show Rg.R.bind (cCall 2 M_made_shelf (aCons (cVar 0) (aCons (cVar 1) aNil)) [some (gD p n pts), some d] st) _ = _
    rw [this]
    rfl
  refine run_ex (m := m_point_of_b1) hf ?_
  unfold m_point_of_b1
  walk_at "st"
  refine S_retX ?_
  exact ⟨_, _, _, ea _ rfl, rfl, rfl, List.prefix_refl _⟩
theorem equation_shelf (h : GoodG p n pts) (hn : 1 ≤ n ∧ n ≤ 12) {d : D} (hv : D.val d = true) (hb : btw 0 ((pts.length : Int) - 1) d = false) (b : D) (st : Sto) : M_equation [] [gD p n pts, d, b] st = .ex "BadShelf" d st := by
  have e1 := gD_made h hn st
  have e2 := point_of_bad (p := p) (n := n) hv hb st
  refine run_ex (m := m_equation_b1) (D.val_flat hv) ?_
  unfold m_equation_b1
  walk_at "st"
  with_reducible refine S_seq ?_
  with_reducible refine S_asg ?_
  walk_at "w"
  refine ⟨_, _, rfl, ?_⟩
  walk_at "w"
  unfold m_equation_b2
  with_reducible refine S_seq ?_
  refine S_asgX ?_
  refine X_call ?_
  walk_at "w"
  exact X_of e2 ⟨rfl, rfl, List.prefix_refl _⟩
theorem equation_place (h : GoodG p n pts) (hn : 1 ≤ n ∧ n ≤ 12) {d : D} (hv : D.val d = true) (hb : btw 0 (1024 - 1) d = false) {i : Nat} (hi : pts[i]? = some x) (st : Sto) : M_equation [] [gD p n pts, .int i, d] st = .ex "BadPlace" d st := by
  have e1 := gD_made h hn st
  have e2 := point_of_eq (p := p) (n := n) hi st
  have e3 := btw_v hv 0 (1024 - 1) st
  rw [hb] at e3
  refine run_ex (m := m_equation_b1) (D.val_flat hv) ?_
  unfold m_equation_b1
  walk_at "st"
  with_reducible refine S_seq ?_
  with_reducible refine S_asg ?_
  walk_at "w"
  refine ⟨_, _, rfl, ?_⟩
  walk_at "w"
  unfold m_equation_b2 m_equation_b3
  walk_at "w"
/-! what is heard -/
theorem heard_of (h : φ [] st = .ex c v st) (hv : v.flat = true) (hc : errsL.contains c = true) (ht : ∀ d ρ s, tryH c d ρ s [("BadGround", some (1, "error"), fun d => sRet (cTup (aCons (cK (.str "BadGround")) (aCons (cK d) aNil)))), ("BadBatch", some (1, "error"), fun d => sRet (cTup (aCons (cK (.str "BadBatch")) (aCons (cK d) aNil)))), ("BadShelf", some (1, "error"), fun d => sRet (cTup (aCons (cK (.str "BadShelf")) (aCons (cK d) aNil)))), ("BadPlace", some (1, "error"), fun d => sRet (cTup (aCons (cK (.str "BadPlace")) (aCons (cK d) aNil)))), ("Refused", none, fun _ => sRet (cTup (aCons (cK (.str "another")) (aCons (cK (.int 0)) aNil))))] =
      if inSl ρ (some (1, "error")) = true then endM (sRet (cTup (aCons (cK (.str c)) (aCons (cK d) aNil))) (wipeO ρ (some (1, "error"))) s) else .no) :
    M__law_heard [φ] [] st = .ok (.tup [.str c, v]) st := by
  have hf : (D.tup [.str c, v]).flat = true := by unfold D.flat D.flats D.flats D.flats; rw [hv]; rfl
  have e1 : sRet (cTup (aCons (cK (.str "told")) (aCons (cCallP φ aNil) aNil))) [none, none] st = .ex c v [none, none] st := by
    unfold sRet cTup aCons cCallP aNil
    show thenS _ ((((φ [] st).bind _).bind _).bind _) _ = _
    rw [h]
    rfl
  refine run_val (mask := [true]) (n := 1) (m := m__law_heard_b1 φ) (fs := [φ]) (ds := []) hf ?_ rfl
  show Vs (m__law_heard_b1 φ [none, none] st) _
  unfold m__law_heard_b1 sTry
  rw [e1]
  simp only [hc, if_true, ht]
  exact ⟨rfl, List.prefix_refl _⟩
theorem law_is_of (e : M__law_heard [φ] [] st = .ok (.tup [.str c, v]) st) (hs : PyData.strOk c = true) {q : PyData} (hq : scal v = some q) (h1 : q.showable = true) (h2 : q.shown.length ≤ sizeLine) (h3 : PyData.strOk q.shown = true) : M__law_is [φ] [.str c, v] st = .ok (.bl true) st := by
  have s1 : eqM (.str c) (.str c) st = some (.bl true, st) := (self_v (by unfold lay; exact hs) st).1
  have s2 : eqM (.str q.shown) (.str q.shown) st = some (.bl true, st) := (self_v (by unfold lay; exact h3) st).1
  refine run_val (mask := [true, false, false]) (n := 1) (m := m__law_is_b1 φ) (fs := [φ]) rfl ?_ rfl
  show Vs (m__law_is_b1 φ [none, some (.str c), some v, none] st) _
  unfold m__law_is_b1
  walk_at "w"
  unfold m__law_is_b2
  walk_at "w"
  refine O_repr hq h1 h2 ?_
  walk_at "w"
  refine O_repr hq h1 h2 ?_
  walk_at "w"
end

section
variable {st : Sto} {p x : Int} {n : Nat} {fs pts : List Int} {c : Str} {v : D} {φ : Clo}
theorem shelf_ex (h : GoodG p n pts) (hn : 1 ≤ n ∧ n ≤ 12) {d : D} (hv : D.val d = true) (hb : btw 0 ((pts.length : Int) - 1) d = false) (st : Sto) : lamM 0 0 [some (gD p n pts), some d] m__law_refused_lam1 [] st = .ex "BadShelf" d st := lam_ex (D.val_flat hv) (by
  unfold m__law_refused_lam1
  refine X_call ?_
  walk_at "w"
  exact X_of (equation_shelf h hn hv hb _ st) ⟨rfl, rfl, List.prefix_refl _⟩)
theorem place_ex (h : GoodG p n pts) (hn : 1 ≤ n ∧ n ≤ 12) {d : D} (hv : D.val d = true) (hb : btw 0 (1024 - 1) d = false) (st : Sto) : lamM 0 0 [some (gD p n pts), some d] m__law_refused_lam2 [] st = .ex "BadPlace" d st := lam_ex (D.val_flat hv) (by
  have hi : pts[0]? = some (pts[0]'(by have := h.2.2.1; omega)) := List.getElem?_eq_getElem _
  unfold m__law_refused_lam2
  refine X_call ?_
  walk_at "w"
  exact X_of (equation_place (i := 0) h hn hv hb hi st) ⟨rfl, rfl, List.prefix_refl _⟩)
theorem ground_ex (h : GoodG p n pts) (st : Sto) : lamM 0 0 [some (.int p), some (.tup (ils pts))] m__law_refused_lam3 [] st = .ex "BadGround" (.int 1) st := lam_ex rfl (by
  unfold m__law_refused_lam3
  refine X_call ?_
  walk_at "w"
  exact X_of (equation_ground h _ _ st) ⟨rfl, rfl, List.prefix_refl _⟩)
theorem is_shelf (h : φ [] st = .ex "BadShelf" v st) (hv : v.flat = true) {q : PyData} (hq : scal v = some q) (h1 : q.showable = true) (h2 : q.shown.length ≤ sizeLine) (h3 : PyData.strOk q.shown = true) : M__law_is [φ] [.str "BadShelf", v] st = .ok (.bl true) st := law_is_of (heard_of h hv (by decide) fun _ _ _ => rfl) (by decide +kernel) hq h1 h2 h3
theorem is_place (h : φ [] st = .ex "BadPlace" v st) (hv : v.flat = true) {q : PyData} (hq : scal v = some q) (h1 : q.showable = true) (h2 : q.shown.length ≤ sizeLine) (h3 : PyData.strOk q.shown = true) : M__law_is [φ] [.str "BadPlace", v] st = .ok (.bl true) st := law_is_of (heard_of h hv (by decide) fun _ _ _ => rfl) (by decide +kernel) hq h1 h2 h3
theorem is_ground (h : φ [] st = .ex "BadGround" v st) (hv : v.flat = true) {q : PyData} (hq : scal v = some q) (h1 : q.showable = true) (h2 : q.shown.length ≤ sizeLine) (h3 : PyData.strOk q.shown = true) : M__law_is [φ] [.str "BadGround", v] st = .ok (.bl true) st := law_is_of (heard_of h hv (by decide) fun _ _ _ => rfl) (by decide +kernel) hq h1 h2 h3
theorem shown_small (k : Nat) (h : k ≤ 8) : (PyData.int k).showable = true ∧ (PyData.int k).shown.length ≤ sizeLine ∧ PyData.strOk (PyData.int k).shown = true := by
  have : k = 0 ∨ k = 1 ∨ k = 2 ∨ k = 3 ∨ k = 4 ∨ k = 5 ∨ k = 6 ∨ k = 7 ∨ k = 8 := by omega
  rcases this with rfl | rfl | rfl | rfl | rfl | rfl | rfl | rfl | rfl <;> exact ⟨by decide +kernel, by decide +kernel, by decide +kernel⟩
theorem pow_9 (s : Sto) : powM (.int 10) (.int 9) s = some (.int 1000000000, s) := rfl
theorem refused_eq (h : GoodG p n pts) (hn : 1 ≤ n ∧ n ≤ 12) (st : Sto) : M__law_refused [] [gD p n pts] st = .ok (.bl true) st := by
  have h1 := h.2.2.1
  have h8 := h.2.1
  have al : (ils pts).length = pts.length := by simp [ils]
  refine run_val (m := m__law_refused_b1) rfl ?_
  unfold m__law_refused_b1
  walk_at "st"
  with_reducible refine S_seq ?_
  with_reducible refine S_asg ?_
  walk_at "w"
  refine ⟨_, _, rfl, ?_⟩
  walk_at "w"
  unfold m__law_refused_b2
  with_reducible refine S_seq ?_
  with_reducible refine S_forG (fun ρ => ∃ u4, ρ = [some (gD p n pts), some (.int p), some (.int n), some (.tup (ils pts)), u4, none]) ?_
  unfold m__law_refused_for1_it
  walk_at "w"
  rw [al]
  walk_at "w"
  intro l1 s1 g1 ll1 at1
  walk_at "w"
  refine ⟨⟨_, rfl⟩, okW1 at1, ?_, ?_⟩
  · rintro d hd ρ s2 ⟨u4, rfl⟩ g2
    refine ⟨_, rfl, ?_⟩
    unfold m__law_refused_for1_body
    simp only [List.set_cons_zero, List.set_cons_succ]
    have key : M__law_is [lamM 0 0 [some (gD p n pts), some d] m__law_refused_lam1] [.str "BadShelf", d] s2 = .ok (.bl true) s2 := by
      simp only [List.mem_cons, List.not_mem_nil, or_false] at hd
      rcases hd with rfl | rfl | rfl | rfl | rfl
      · exact is_shelf (shelf_ex h hn rfl (by simp [btw]) s2) rfl rfl (by decide +kernel) (by decide +kernel) (by decide +kernel)
      · obtain ⟨z1, z2, z3⟩ := shown_small pts.length h8
        exact is_shelf (shelf_ex h hn rfl (by simp [btw]; omega) s2) rfl rfl z1 z2 z3
      · exact is_shelf (shelf_ex h hn rfl rfl s2) rfl rfl (by decide +kernel) (by decide +kernel) (by decide +kernel)
      · exact is_shelf (shelf_ex h hn rfl rfl s2) rfl rfl (by decide +kernel) (by decide +kernel) (by decide +kernel)
      · exact is_shelf (shelf_ex h hn rfl rfl s2) rfl rfl (by decide +kernel) (by decide +kernel) (by decide +kernel)
    walk_at "w"
    exact ⟨⟨_, rfl⟩, List.prefix_refl _⟩
  rintro ρ s2 ⟨u4, rfl⟩ g2
  with_reducible refine K_nx ?_
  unfold m__law_refused_b3
  with_reducible refine S_seq ?_
  with_reducible refine S_forG (fun ρ => ∃ u5, ρ = [some (gD p n pts), some (.int p), some (.int n), some (.tup (ils pts)), u4, u5]) ?_
  unfold m__law_refused_for2_it
  walk_at "w"
  refine W_lift (pow_9 _) ?_
  walk_at "w"
  intro l2 s3 g3 ll2 at2
  walk_at "w"
  refine ⟨⟨_, rfl⟩, okW1 at2, ?_, ?_⟩
  · rintro d hd ρ s4 ⟨u5, rfl⟩ g4
    refine ⟨_, rfl, ?_⟩
    unfold m__law_refused_for2_body
    simp only [List.set_cons_zero, List.set_cons_succ]
    have key : M__law_is [lamM 0 0 [some (gD p n pts), some d] m__law_refused_lam2] [.str "BadPlace", d] s4 = .ok (.bl true) s4 := by
      simp only [List.mem_cons, List.not_mem_nil, or_false] at hd
      rcases hd with rfl | rfl | rfl | rfl | rfl
      · exact is_place (place_ex h hn rfl (by simp [btw]) s4) rfl rfl (by decide +kernel) (by decide +kernel) (by decide +kernel)
      · exact is_place (place_ex h hn rfl (by simp [btw]) s4) rfl rfl (by decide +kernel) (by decide +kernel) (by decide +kernel)
      · exact is_place (place_ex h hn rfl (by simp [btw]) s4) rfl rfl (by decide +kernel) (by decide +kernel) (by decide +kernel)
      · exact is_place (place_ex h hn rfl rfl s4) rfl rfl (by decide +kernel) (by decide +kernel) (by decide +kernel)
      · exact is_place (place_ex h hn rfl rfl s4) rfl rfl (by decide +kernel) (by decide +kernel) (by decide +kernel)
    walk_at "w"
    exact ⟨⟨_, rfl⟩, List.prefix_refl _⟩
  rintro ρ s4 ⟨u5, rfl⟩ g4
  unfold m__law_refused_b4
  have key : M__law_is [lamM 0 0 [some (.int p), some (.tup (ils pts))] m__law_refused_lam3] [.str "BadGround", .int 1] s4 = .ok (.bl true) s4 := is_ground (ground_ex h s4) rfl rfl (by decide +kernel) (by decide +kernel) (by decide +kernel)
  walk_at "w"
  exact g1.trans (g2.trans (g3.trans g4))
end

section
variable {st : Sto} {p x : Int} {n : Nat} {fs pts : List Int} {d0 : D}
theorem dot_range : ∀ (fs ws : List Int) (k : Nat), fs.length = k → ws.length = k → ((List.range k).map fun t => ws.getD t 0 * fs.getD t 0).sum = dotZ fs ws
  | fs, ws, k, h1, h2 => by
    rw [← dot_sum]
    congr 1
    apply List.ext_getElem?
    intro i
    by_cases hi : i < k
    · rw [List.getElem?_map, List.getElem?_range hi, List.getElem?_zipWith, List.getElem?_eq_getElem (by omega : i < fs.length), List.getElem?_eq_getElem (by omega : i < ws.length)]
      simp [List.getD_eq_getElem?_getD, List.getElem?_eq_getElem (by omega : i < fs.length), List.getElem?_eq_getElem (by omega : i < ws.length), Int.mul_comm]
    · rw [List.getElem?_eq_none (by simp; omega), List.getElem?_eq_none (by simp; omega)]
theorem dot_one : ∀ (ws : List Int) (t k : Nat), ws.length = k → t < k → dotZ ((List.range k).map fun a => if a = t then 1 else 0) ws = ws.getD t 0 := by
  intro ws t k h1 h2
  have comm : ∀ (as bs : List Int), as.length = bs.length → dotZ as bs = dotZ bs as := by
    intro as
    induction as with
    | nil => intro bs h; cases bs with
      | nil => rfl
      | cons b bs => simp at h
    | cons a as ih => intro bs h; cases bs with
      | nil => simp at h
      | cons b bs =>
        rw [← dot_sum, ← dot_sum]
        simp only [List.zipWith_cons_cons, List.sum_cons, dot_sum]
        rw [ih bs (by simpa using h), Int.mul_comm]
  rw [comm _ _ (by simp [h1])]
  have := dot_ind ws t (by omega)
  rw [h1] at this
  exact this
theorem vw_late {j : Nat} (hx : 0 ≤ x) (hj : n ≤ j) : vw p n x j = List.replicate n 0 := by
  unfold vw
  split
  · refine List.eq_replicate_iff.mpr ⟨by simp, fun b hb => ?_⟩
    obtain ⟨t, ht, rfl⟩ := List.mem_map.mp hb
    have := List.mem_range.mp ht
    rw [if_neg (by omega)]
  · exact wl_rep hj
theorem val_one {j t : Nat} (hp : 2 ≤ p) (ht : t < n) : valZ p ((List.range n).map fun a => if a = t then 1 else 0) x j = (vw p n x j).getD t 0 := by
  have hl : (vw p n x j).length = n := vw_len
  have hg : (vw p n x j)[t]? = some ((vw p n x j).getD t 0) := by rw [List.getD_eq_getElem?_getD, List.getElem?_eq_getElem (by omega)]; rfl
  have b := vw_bd hp hg
  unfold valZ
  rw [List.length_map, List.length_range, dot_one _ t n hl ht]
  exact Int.emod_eq_of_lt b.1 b.2
theorem whole_int (i : Int) (st : Sto) : M__law_is_whole [] [.int i] st = .ok (.bl true) st := by simp [runDef, plains, startM, outR, sRet, sSeq, sIf, sAsg, sNext, sExpr, sRaise, sRetN, sAug, sPar, thenS, tN, cVar, cK, cOp, cIf, cAnd, cOr, cNot, cNotT, cNeg, cChain, cTup, cLst, cBi, cCall, cCallF, cCallP, cIsi,   aNil, aCons, afNil, afCons, afDef, afSlot, afLam, bVal, bTru, bAnd, bOr, bNot, R.bind, lift, isM, isNotM, isB, leM, ltM, geM, gtM, intM, subM, modM, divM, mulM, addM, ixM, truM, tyName, isiT, itemsOf, lenM, iaddM, isubM, min2M, max2M, eqM_int, neM_int, small_size, small_size2, M__law_is_whole, m__law_is_whole_b1]
theorem fil_none (xs : List D) : (xs.filter fun _ => false).map id = [] := by
  rw [List.map_id, List.filter_eq_nil_iff]
  simp
theorem law_eq {ns : List Int} (h : Scr d0 st ns) : ∃ s', M_law [] [d0] st = .ok (.bl true) s' := by
  obtain ⟨i, j, s1, e1, p1⟩ := pool_eq h
  obtain ⟨_, s2, e2, ⟨p, n, pts, rfl, good, n1, n3, _⟩, _, p2, _⟩ := ground_eq (most := 12) (many := 8) (by omega) (by omega) (by omega) (by omega) p1
  have e2 : M__law_ground [] [.ref i, .int 12, .int 8] s1 = .ok (gD p n pts) s2 := e2
  obtain ⟨k, rfl⟩ := Int.eq_ofNat_of_zero_le (show 0 ≤ n by omega)
  have hn : 1 ≤ k ∧ k ≤ 12 := ⟨by omega, by omega⟩
  have hP := good.1
  have hp := hP.1
  have hp2 := hP.2.1
  have h8 := good.2.1
  obtain ⟨_, s3, e3, ⟨fs, rfl, hb⟩, _, p3, _⟩ := law_batch_eq (pts := pts) hp hp2 hn p2
  have fl := hb.1
  have al : (ils pts).length = pts.length := by simp [ils]
  refine law_true (m := m_law_b1) ?_
  unfold m_law_b1 m_law_b2
  walk_at "st"
  walk_at "w"
  unfold m_law_b3
  with_reducible refine S_seq ?_
  with_reducible refine S_asg ?_
  walk_at "w"
  refine ⟨_, _, rfl, ?_⟩
  walk_at "w"
  unfold m_law_b4
  walk_at "w"
  clear e1 e2 e3
  unfold m_law_b5
  with_reducible refine S_seq ?_
  with_reducible refine S_for (fun _ ρ s => (∃ u7 u8 u9 u10 u11 u12 u13, ρ = [some d0, some (.ref i), some (gD p k pts), some (.int p), some (.int k), some (.tup (ils pts)), some (.tup (ils fs)), u7, u8, u9, u10, u11, u12, u13]) ∧ Pool i j s) ?_
  unfold m_law_for1_it
  walk_at "w"
  rw [al]
  walk_at "w"
  refine ⟨⟨⟨_, _, _, _, _, _, _, rfl⟩, p3⟩, fun _ _ _ _ => okW_nil, ?_, ?_⟩
  · rintro w d ρ s5 hd ⟨⟨u7, u8, u9, u10, u11, u12, u13, rfl⟩, p5⟩
    obtain ⟨hw, rfl⟩ := range_at hd
    obtain ⟨pt, hpt⟩ : ∃ pt, pts[w]? = some pt := ⟨_, List.getElem?_eq_getElem (by omega)⟩
    have hpb := good.2.2.2.1 pt (List.mem_of_getElem? hpt)
    refine ⟨_, _, rfl, ?_⟩
    unfold m_law_for1_body
    simp only [List.set_cons_zero, List.set_cons_succ]
    obtain ⟨jv, s6, e6, j0, j1, p6, _⟩ := draw_eq (many := (k : Int)) p5 (by omega) (by omega)
    obtain ⟨q, rfl⟩ := Int.eq_ofNat_of_zero_le j0
    have hq : q < k := by omega
    have e7 := equation_eq (j := q) good hn hpt (by omega) s6
    have vl : (ils (vw p k pt q)).length = k := by simp [ils, vw_len]
    have vlen : (vw p k pt q).length = k := vw_len
    walk_at "w"
    clear e6 e7
    refine W_filV ?_
    unfold m_law_lc3_it
    simp only [wipeM, List.set_cons_zero, List.set_cons_succ]
    walk_at "w"
    refine ⟨okW_nil, by rw [vl]; omega, fun _ => false, id, ?_, ?_⟩
    · intro d hd s7 g7
      obtain ⟨y, hy, rfl⟩ := List.mem_map.mp hd
      obtain ⟨a, ha⟩ := List.mem_iff_getElem?.mp hy
      have b := vw_bd hp ha
      have e8 := whole_int y s7
      refine ⟨_, rfl, ?_⟩
      unfold m_law_lc3_if m_law_lc3_elt
      simp only [wipeM, List.set_cons_zero, List.set_cons_succ]
      walk_at "w"
      exact ⟨by simp [b], List.prefix_refl _, fun z => by cases z⟩
    intro s7 g7 at7
    rw [fil_none] at at7
    walk_at "w"
    intro ne s8 g8 l8 at8
    have z := (eq_nil (pr_at g8 at7) at8).2
    walk_at "w"
    have p8 : Pool i j s8 := (p6.pre g7).pre g8
    clear z
    -- the weighed sum
    refine W_map (List.range k) (fun t => .int (0 + (t : Nat))) (fun t => .int ((vw p k pt q).getD t 0 * fs.getD t 0)) ?_ (by simp; omega) (fun t ht s9 g9 => ?_) (fun s9 g9 at9 => ?_)
    · unfold m_law_lc2_it
      walk_at "w"
      exact okW_nil
    · have ht := List.mem_range.mp ht
      have a1 : atI (ils (vw p k pt q)) (t : Nat) = some (.int ((vw p k pt q).getD t 0)) := at_ints (by omega)
      have a2 : atI (ils fs) (t : Nat) = some (.int (fs.getD t 0)) := at_ints (by omega)
      have b : 0 ≤ (vw p k pt q).getD t 0 ∧ (vw p k pt q).getD t 0 < p := by
        refine vw_bd (i := t) (n := k) (x := pt) (j := q) hp ?_
        rw [List.getD_eq_getElem?_getD, List.getElem?_eq_getElem (by omega)]
        rfl
      rw [Int.zero_add]
      refine ⟨_, rfl, ?_⟩
      unfold m_law_lc2_elt
      simp only [wipeM, List.set_cons_zero, List.set_cons_succ]
      walk_at "w"
    have at9' : s9[s8.length]? = some (.lst (((List.range k).map fun t => (vw p k pt q).getD t 0 * fs.getD t 0).map D.int)) := by
      rw [at9, List.map_map]
      rfl
    have c1 := law_cell_eq (j := q) good hn hb hpt hq s9
    have hsum : ((List.range k).map fun t => (vw p k pt q).getD t 0 * fs.getD t 0).sum % p = valZ p fs pt q := by
      unfold valZ
      rw [dot_range fs (vw p k pt q) k fl vlen, fl]
    walk_at "w"
    clear c1
    have p9 : Pool i j s9 := p8.pre g9
    obtain ⟨tv, s10, e10, t0, t1, p10, _⟩ := draw_eq (many := (k : Int)) p9 (by omega) (by omega)
    obtain ⟨t, rfl⟩ := Int.eq_ofNat_of_zero_le t0
    have ht : t < k := by omega
    walk_at "w"
    clear e10
    refine W_map (List.range k) (fun t => .int (0 + (t : Nat))) (fun a => .int (if a = t then 1 else 0)) ?_ (by simp; omega) (fun a ha s11 g11 => ?_) (fun s11 g11 at11 => ?_)
    · unfold m_law_lc1_it
      walk_at "w"
      exact okW_nil
    · rw [Int.zero_add]
      refine ⟨_, rfl, ?_⟩
      unfold m_law_lc1_elt
      simp only [wipeM, List.set_cons_zero, List.set_cons_succ]
      walk_at "w"
      by_cases c : a = t
      · subst c
        simp
      · rw [decide_eq_false (by omega), if_neg c]
        simp
    have at11' : s11[s10.length]? = some (.lst (ils ((List.range k).map fun a => if a = t then 1 else 0))) := by
      rw [at11, ils, List.map_map]
      rfl
    have ob : okBt p k ((List.range k).map fun a => if a = t then 1 else 0) := ⟨by simp, fun y hy => by
      obtain ⟨a, _, rfl⟩ := List.mem_map.mp hy
      split <;> omega⟩
    have c2 := law_cell_eq (j := q) good hn ob hpt hq s11
    rw [val_one hp ht] at c2
    have a3 : atI (ils (vw p k pt q)) (t : Nat) = some (.int ((vw p k pt q).getD t 0)) := at_ints (by omega)
    walk_at "w"
    clear c2
    have e12 := equation_eq (j := k) good hn hpt (by omega) s11
    have e13 : M_equation [] [gD p k pts, .int w, .int 1023] s11 = _ := equation_eq (j := 1023) good hn hpt (by omega) s11
    rw [vw_late hpb.1 (Nat.le_refl k)] at e12
    rw [vw_late hpb.1 (by omega)] at e13
    have z1 := (self_v (lay_mono (lay_ints (List.replicate k 0)) (show 1 ≤ 18 by omega)) s11).2
    have rz : (List.replicate ((k : Nat) : Int).toNat [D.int 0]).flatten = ils (List.replicate k 0) := by rw [rep_ints, Int.toNat_natCast]
    walk_at "w"
    rw [rz]
    walk_at "w"
    rw [rz]
    walk_at "w"
    exact ⟨⟨_, _, _, _, _, _, _, rfl⟩, p10.pre g11⟩
  · rintro ρ s5 ⟨⟨u7, u8, u9, u10, u11, u12, u13, rfl⟩, p5⟩
    have e14 := refused_eq good hn s5
    unfold m_law_b6
    walk_at "w"
    rfl
theorem told_law : Told M_law := fun ns _ => ⟨law_eq (scr_ref ns), law_eq (scr_fl ns)⟩
end

def topS (i : Nat) : Stmt := PySem.Challenge.pw_firstsafe_k05_equations_of_cells.main.body.getD i (.Pass ⟨0, 0, 0, 0⟩)
abbrev s_is_number : Stmt := topS 7
abbrev N_is_number : List Str := ["thing"]
theorem sc_is_number : FnScope N_is_number ["thing"] (defScope s_is_number) := ⟨rfl, rfl, rfl, by decide +kernel, rfl, by decide +kernel, by decide +kernel⟩
abbrev s_number_between : Stmt := topS 8
abbrev N_number_between : List Str := ["thing", "least", "most"]
theorem sc_number_between : FnScope N_number_between ["thing", "least", "most"] (defScope s_number_between) := ⟨rfl, rfl, rfl, by decide +kernel, rfl, by decide +kernel, by decide +kernel⟩
abbrev s_tuple_fault : Stmt := topS 9
abbrev N_tuple_fault : List Str := ["thing", "least", "most", "fits", "index", "item"]
theorem sc_tuple_fault : FnScope N_tuple_fault ["thing", "least", "most", "fits"] (defScope s_tuple_fault) := ⟨rfl, rfl, rfl, by decide +kernel, rfl, by decide +kernel, by decide +kernel⟩
abbrev s_tuple_fits : Stmt := topS 10
abbrev N_tuple_fits : List Str := ["thing", "least", "most", "fits"]
theorem sc_tuple_fits : FnScope N_tuple_fits ["thing", "least", "most", "fits"] (defScope s_tuple_fits) := ⟨rfl, rfl, rfl, by decide +kernel, rfl, by decide +kernel, by decide +kernel⟩
abbrev s_numbers_fit : Stmt := topS 11
abbrev N_numbers_fit : List Str := ["thing", "least", "most", "greatest"]
theorem sc_numbers_fit : FnScope N_numbers_fit ["thing", "least", "most", "greatest"] (defScope s_numbers_fit) := ⟨rfl, rfl, rfl, by decide +kernel, rfl, by decide +kernel, by decide +kernel⟩
abbrev s_is_prime : Stmt := topS 17
abbrev N_is_prime : List Str := ["n", "divisor"]
theorem sc_is_prime : FnScope N_is_prime ["n"] (defScope s_is_prime) := ⟨rfl, rfl, rfl, by decide +kernel, rfl, by decide +kernel, by decide +kernel⟩
abbrev s_points_fit : Stmt := topS 19
abbrev N_points_fit : List Str := ["p", "thing"]
theorem sc_points_fit : FnScope N_points_fit ["p", "thing"] (defScope s_points_fit) := ⟨rfl, rfl, rfl, by decide +kernel, rfl, by decide +kernel, by decide +kernel⟩
abbrev s_ground_fault : Stmt := topS 20
abbrev N_ground_fault : List Str := ["thing"]
theorem sc_ground_fault : FnScope N_ground_fault ["thing"] (defScope s_ground_fault) := ⟨rfl, rfl, rfl, by decide +kernel, rfl, by decide +kernel, by decide +kernel⟩
abbrev s_made_ground : Stmt := topS 21
abbrev N_made_ground : List Str := ["thing", "fault"]
theorem sc_made_ground : FnScope N_made_ground ["thing"] (defScope s_made_ground) := ⟨rfl, rfl, rfl, by decide +kernel, rfl, by decide +kernel, by decide +kernel⟩
abbrev s_powers : Stmt := topS 23
abbrev N_powers : List Str := ["p", "a", "many", "found", "_"]
theorem sc_powers : FnScope N_powers ["p", "a", "many"] (defScope s_powers) := ⟨rfl, rfl, rfl, by decide +kernel, rfl, by decide +kernel, by decide +kernel⟩
abbrev s_later_weights : Stmt := topS 24
abbrev N_later_weights : List Str := ["p", "point", "weights", "found", "weight"]
theorem sc_later_weights : FnScope N_later_weights ["p", "point", "weights"] (defScope s_later_weights) := ⟨rfl, rfl, rfl, by decide +kernel, rfl, by decide +kernel, by decide +kernel⟩
abbrev s_value_weights : Stmt := topS 25
abbrev N_value_weights : List Str := ["p", "many", "point", "j", "weights", "_", "t"]
theorem sc_value_weights : FnScope N_value_weights ["p", "many", "point", "j"] (defScope s_value_weights) := ⟨rfl, rfl, rfl, by decide +kernel, rfl, by decide +kernel, by decide +kernel⟩
abbrev s_shelf_fits : Stmt := topS 27
abbrev N_shelf_fits : List Str := ["ground", "thing"]
theorem sc_shelf_fits : FnScope N_shelf_fits ["ground", "thing"] (defScope s_shelf_fits) := ⟨rfl, rfl, rfl, by decide +kernel, rfl, by decide +kernel, by decide +kernel⟩
abbrev s_made_shelf : Stmt := topS 28
abbrev N_made_shelf : List Str := ["ground", "thing"]
theorem sc_made_shelf : FnScope N_made_shelf ["ground", "thing"] (defScope s_made_shelf) := ⟨rfl, rfl, rfl, by decide +kernel, rfl, by decide +kernel, by decide +kernel⟩
abbrev s_point_of : Stmt := topS 29
abbrev N_point_of : List Str := ["ground", "shelf"]
theorem sc_point_of : FnScope N_point_of ["ground", "shelf"] (defScope s_point_of) := ⟨rfl, rfl, rfl, by decide +kernel, rfl, by decide +kernel, by decide +kernel⟩
abbrev s_equation : Stmt := topS 30
abbrev N_equation : List Str := ["ground", "shelf", "j", "p", "k", "_", "point"]
theorem sc_equation : FnScope N_equation ["ground", "shelf", "j"] (defScope s_equation) := ⟨rfl, rfl, rfl, by decide +kernel, rfl, by decide +kernel, by decide +kernel⟩
abbrev s__law_pool : Stmt := topS 32
abbrev N__law_pool : List Str := ["script", "first", "size"]
theorem sc__law_pool : FnScope N__law_pool ["script"] (defScope s__law_pool) := ⟨rfl, rfl, rfl, by decide +kernel, rfl, by decide +kernel, by decide +kernel⟩
abbrev s__law_draw : Stmt := topS 33
abbrev N__law_draw : List Str := ["pool", "many", "first", "size", "found"]
theorem sc__law_draw : FnScope N__law_draw ["pool", "many"] (defScope s__law_draw) := ⟨rfl, rfl, rfl, by decide +kernel, rfl, by decide +kernel, by decide +kernel⟩
abbrev s__law_pick : Stmt := topS 34
abbrev N__law_pick : List Str := ["pool", "things"]
theorem sc__law_pick : FnScope N__law_pick ["pool", "things"] (defScope s__law_pick) := ⟨rfl, rfl, rfl, by decide +kernel, rfl, by decide +kernel, by decide +kernel⟩
abbrev s__law_is_whole : Stmt := topS 35
abbrev N__law_is_whole : List Str := ["thing"]
theorem sc__law_is_whole : FnScope N__law_is_whole ["thing"] (defScope s__law_is_whole) := ⟨rfl, rfl, rfl, by decide +kernel, rfl, by decide +kernel, by decide +kernel⟩
abbrev s__law_turned : Stmt := topS 36
abbrev N__law_turned : List Str := ["pool", "many", "left", "found", "turn"]
theorem sc__law_turned : FnScope N__law_turned ["pool", "many"] (defScope s__law_turned) := ⟨rfl, rfl, rfl, by decide +kernel, rfl, by decide +kernel, by decide +kernel⟩
abbrev s__law_ground : Stmt := topS 37
abbrev N__law_ground : List Str := ["pool", "most", "many", "p", "count", "points", "begin", "gap", "at"]
theorem sc__law_ground : FnScope N__law_ground ["pool", "most", "many"] (defScope s__law_ground) := ⟨rfl, rfl, rfl, by decide +kernel, rfl, by decide +kernel, by decide +kernel⟩
abbrev s__law_batch : Stmt := topS 38
abbrev N__law_batch : List Str := ["pool", "ground", "p", "k", "points", "place", "at"]
theorem sc__law_batch : FnScope N__law_batch ["pool", "ground"] (defScope s__law_batch) := ⟨rfl, rfl, rfl, by decide +kernel, rfl, by decide +kernel, by decide +kernel⟩
abbrev s__law_lengths : Stmt := topS 39
abbrev N__law_lengths : List Str := ["pool", "ground", "most", "point"]
theorem sc__law_lengths : FnScope N__law_lengths ["pool", "ground", "most"] (defScope s__law_lengths) := ⟨rfl, rfl, rfl, by decide +kernel, rfl, by decide +kernel, by decide +kernel⟩
abbrev s__law_written_out : Stmt := topS 40
abbrev N__law_written_out : List Str := ["p", "form", "point", "found", "number", "longer", "at"]
theorem sc__law_written_out : FnScope N__law_written_out ["p", "form", "point"] (defScope s__law_written_out) := ⟨rfl, rfl, rfl, by decide +kernel, rfl, by decide +kernel, by decide +kernel⟩
abbrev s__law_cell : Stmt := topS 41
abbrev N__law_cell : List Str := ["ground", "batch", "shelf", "j", "numbers"]
theorem sc__law_cell : FnScope N__law_cell ["ground", "batch", "shelf", "j"] (defScope s__law_cell) := ⟨rfl, rfl, rfl, by decide +kernel, rfl, by decide +kernel, by decide +kernel⟩
abbrev s__law_times : Stmt := topS 42
abbrev N__law_times : List Str := ["p", "f", "g", "found", "i", "one", "j", "other"]
theorem sc__law_times : FnScope N__law_times ["p", "f", "g"] (defScope s__law_times) := ⟨rfl, rfl, rfl, by decide +kernel, rfl, by decide +kernel, by decide +kernel⟩
abbrev s__law_line : Stmt := topS 43
abbrev N__law_line : List Str := ["p", "point"]
theorem sc__law_line : FnScope N__law_line ["p", "point"] (defScope s__law_line) := ⟨rfl, rfl, rfl, by decide +kernel, rfl, by decide +kernel, by decide +kernel⟩
abbrev s__law_product : Stmt := topS 44
abbrev N__law_product : List Str := ["ground", "lengths", "found", "shelf", "length", "turn"]
theorem sc__law_product : FnScope N__law_product ["ground", "lengths"] (defScope s__law_product) := ⟨rfl, rfl, rfl, by decide +kernel, rfl, by decide +kernel, by decide +kernel⟩
abbrev s__law_heard : Stmt := topS 45
abbrev N__law_heard : List Str := ["call", "error"]
theorem sc__law_heard : FnScope N__law_heard ["call"] (defScope s__law_heard) := ⟨rfl, rfl, rfl, by decide +kernel, rfl, by decide +kernel, by decide +kernel⟩
abbrev s__law_is : Stmt := topS 46
abbrev N__law_is : List Str := ["call", "name", "what", "heard"]
theorem sc__law_is : FnScope N__law_is ["call", "name", "what"] (defScope s__law_is) := ⟨rfl, rfl, rfl, by decide +kernel, rfl, by decide +kernel, by decide +kernel⟩
abbrev s__law_refused : Stmt := topS 47
abbrev N__law_refused : List Str := ["ground", "p", "k", "points", "shelf", "place"]
theorem sc__law_refused : FnScope N__law_refused ["ground"] (defScope s__law_refused) := ⟨rfl, rfl, rfl, by decide +kernel, rfl, by decide +kernel, by decide +kernel⟩
abbrev s_law : Stmt := topS 48
abbrev N_law : List Str := ["script", "pool", "ground", "p", "k", "points", "batch", "shelf", "j", "told", "t", "one", "number", "at"]
theorem sc_law : FnScope N_law ["script"] (defScope s_law) := ⟨rfl, rfl, rfl, by decide +kernel, rfl, by decide +kernel, by decide +kernel⟩
abbrev s_Refused___init__ : Stmt := inClass (topS 1) 0
theorem sc_Refused___init__ : FnScope ["self", "what"] ["self", "what"] (defScope s_Refused___init__) := ⟨rfl, rfl, rfl, by decide +kernel, rfl, by decide +kernel, by decide +kernel⟩
structure Txt (K : PySem.W.Frag) (mg : Str → Option Value) : Prop where
  b_len : mg "len" = none
  b_int : mg "int" = none
  b_list : mg "list" = none
  b_tuple : mg "tuple" = none
  b_range : mg "range" = none
  b_enumerate : mg "enumerate" = none
  b_isinstance : mg "isinstance" = none
  b_bool : mg "bool" = none
  b_min : mg "min" = none
  b_sum : mg "sum" = none
  b_set : mg "set" = none
  b_ValueError : mg "ValueError" = none
  b_repr : mg "repr" = none
  c_MOST_PRIME : ∃ t, mg "MOST_PRIME" = some (.int 65521 t)
  c_MOST_NUMBERS : ∃ t, mg "MOST_NUMBERS" = some (.int 12 t)
  c_MOST_SHELVES : ∃ t, mg "MOST_SHELVES" = some (.int 8 t)
  c_MOST_CELLS : ∃ t, mg "MOST_CELLS" = some (.int 1024 t)
section
variable {P : Program} {w : World} {K : PySem.W.Frag} {mg : Str → Option Value} {base : Heap} {TZ : Tabz}
theorem ok_init {f : Addr} {fd : FuncData} (F : Fun K "__init__" "Refused.__init__" s_Refused___init__ f fd) : FnOk P w K mg base CX0 1 f fd ["self", "what"] (spErrInit K) := by
  refine F.ok sc_Refused___init__ (fun vs H Q E h => ?_) (fun cdv A outer s H vs Q E hr h => ?_)
  · obtain ⟨a, C, y, rfl, _⟩ := h
    rfl
  · obtain ⟨a, C, y, rfl, hT, hn, ha, q⟩ := h
    refine ⟨_, pss_one (ps_ost (pv 0) (pv 1)), ?_⟩
    exact ⟨_, rfl, _, rfl, a, C, rfl, hT, hn, .inl ⟨ha, fun dx h1 h2 => q dx h1 h2⟩⟩
theorem ok__law_pool {f__law_pool : Addr} {fd__law_pool : FuncData} (D__law_pool : DefAt K mg "_law_pool" s__law_pool ["script"] f__law_pool fd__law_pool) (T : Txt K mg) :
    FnM ⟨P, w, K, mg, base, TZ⟩ "_law_pool" 1 0 [false] M__law_pool := by
  refine okM D__law_pool sc__law_pool rfl rfl fun cdv A outer s H E fs hr => ?_
  exact (rss_cons (rs_set (i := 1) sc__law_pool.nd rfl (Or.inl rfl) (re_if (rt_cmp op_gtM (re_callB call_lenM rfl T.b_len PySem.boot_len (ra_cons (rv 0) ra_nil)) re_int (nomark _)) (re_callTy call_toIntM rfl T.b_int (by decide +kernel) (ra_cons (re_ix ix_M (rv 0) re_int (fun _ _ => rfl)) ra_nil)) re_int))
      (rss_cons (rs_set (i := 2) sc__law_pool.nd rfl (Or.inl rfl) (re_if (rt_cmp op_geM (rv 1) re_int (nomark _)) (re_bin op_mulM re_int (rv 1)) (re_bin op_subM (re_neg re_int) (re_bin op_mulM re_int (rv 1)))))
      (rss_one (rs_ret (re_lst (ra_cons (re_if (rt_cmp op_geM (rv 2) (re_bin op_powM re_int re_int) (nomark _)) (rv 2) re_int) (ra_cons (re_bin op_addM (re_bin op_modM (re_callTy call_toIntM rfl T.b_int (by decide +kernel) (ra_cons (re_bin op_addM (re_bin op_mulM (rv 2) re_int) re_int) ra_nil)) re_int) re_int) (ra_cons (re_callTy call_listM rfl T.b_list (by decide +kernel) (ra_cons (re_slice (rv 0) (ro_some re_int) ro_none) ra_nil)) ra_nil))))))))

theorem ok__law_draw {f__law_draw : Addr} {fd__law_draw : FuncData} (D__law_draw : DefAt K mg "_law_draw" s__law_draw ["pool", "many"] f__law_draw fd__law_draw) (T : Txt K mg) :
    FnM ⟨P, w, K, mg, base, TZ⟩ "_law_draw" 1 0 [false, false] M__law_draw := by
  refine okM D__law_draw sc__law_draw rfl rfl fun cdv A outer s H E fs hr => ?_
  exact (rss_cons (rs_if (RW.rt (rw_and (rt_cmp (op_eqM hr.units) (re_ix ix_M (rv 0) re_int (fun _ _ => rfl)) re_int (nomark _)) (rw_and1 (rt_cmp (op_neM hr.units) (re_ix ix_M (rv 0) re_int (fun _ _ => rfl)) (re_lst ra_nil) (nomark _))))) (rss_cons (rs_set (i := 2) sc__law_draw.nd rfl (Or.inl rfl) (re_callTy call_toIntM rfl T.b_int (by decide +kernel) (ra_cons (re_meth PySem.F.plainAttrs_list PySem.F.slot_list_pop PySem.F.type_list_pop mt_popAt meth_popAt (re_ix ix_M (rv 0) re_int (fun _ _ => rfl)) (ra_cons re_int ra_nil)) ra_nil)))
      (rss_cons (rs_set (i := 3) sc__law_draw.nd rfl (Or.inl rfl) (re_if (rt_cmp op_geM (rv 2) re_int (nomark _)) (re_bin op_mulM re_int (rv 2)) (re_bin op_subM (re_neg re_int) (re_bin op_mulM re_int (rv 2)))))
      (rss_cons (rs_asg (re_if (rt_cmp op_geM (rv 3) (re_bin op_powM re_int re_int) (nomark _)) (rv 3) re_int) (rg_sub (W := We) (rv 0) re_int))
      (rss_one (rs_asg (re_bin op_addM (re_bin op_modM (re_callTy call_toIntM rfl T.b_int (by decide +kernel) (ra_cons (re_bin op_addM (re_ix ix_M (rv 0) re_int (fun _ _ => rfl)) (re_bin op_mulM (rv 3) re_int)) ra_nil)) re_int) re_int) (rg_sub (W := We) (rv 0) re_int)))))) (rss_nil))
      (rss_cons (rs_if (rt_cmp op_gtM (re_ix ix_M (rv 0) re_int (fun _ _ => rfl)) re_int (nomark _)) (rss_cons (rs_set (i := 4) sc__law_draw.nd rfl (Or.inl rfl) (re_bin op_modM (re_callTy call_toIntM rfl T.b_int (by decide +kernel) (ra_cons (re_ix ix_M (rv 0) re_int (fun _ _ => rfl)) ra_nil)) (rv 1)))
      (rss_cons (rs_asg (re_bin op_divM (re_ix ix_M (rv 0) re_int (fun _ _ => rfl)) (rv 1)) (rg_sub (W := We) (rv 0) re_int))
      (rss_one (rs_ret (rv 4))))) (rss_nil))
      (rss_cons (rs_asg (re_bin op_modM (re_callTy call_toIntM rfl T.b_int (by decide +kernel) (ra_cons (re_bin op_addM (re_bin op_mulM (re_ix ix_M (rv 0) re_int (fun _ _ => rfl)) re_int) re_int) ra_nil)) re_int) (rg_sub (W := We) (rv 0) re_int))
      (rss_one (rs_ret (re_bin op_modM (re_bin op_divM (re_bin op_modM (re_callTy call_toIntM rfl T.b_int (by decide +kernel) (ra_cons (re_bin op_mulM (re_ix ix_M (rv 0) re_int (fun _ _ => rfl)) (re_ix ix_M (rv 0) re_int (fun _ _ => rfl))) ra_nil)) re_int) re_int) (rv 1)))))))

theorem ok__law_pick {f__law_pick : Addr} {fd__law_pick : FuncData} (D__law_pick : DefAt K mg "_law_pick" s__law_pick ["pool", "things"] f__law_pick fd__law_pick) (T : Txt K mg) (F__law_draw : FnM ⟨P, w, K, mg, base, TZ⟩ "_law_draw" 1 0 [false, false] M__law_draw) :
    FnM ⟨P, w, K, mg, base, TZ⟩ "_law_pick" 2 0 [false, false] M__law_pick := by
  refine okM D__law_pick sc__law_pick rfl rfl fun cdv A outer s H E fs hr => ?_
  exact (rss_one (rs_ret (re_ix ix_M (rv 1) (re_call (n := 2) F__law_draw (hr.mono (by decide)) rfl (takes_of rfl rfl rfl rfl) (ra_cons (rv 0) (ra_cons (re_callB call_lenM rfl T.b_len PySem.boot_len (ra_cons (rv 1) ra_nil)) ra_nil))) (fun _ _ => rfl))))

theorem ok__law_turned {f__law_turned : Addr} {fd__law_turned : FuncData} (D__law_turned : DefAt K mg "_law_turned" s__law_turned ["pool", "many"] f__law_turned fd__law_turned) (T : Txt K mg) (F__law_draw : FnM ⟨P, w, K, mg, base, TZ⟩ "_law_draw" 1 0 [false, false] M__law_draw) :
    FnM ⟨P, w, K, mg, base, TZ⟩ "_law_turned" 2 0 [false, false] M__law_turned := by
  refine okM D__law_turned sc__law_turned rfl rfl fun cdv A outer s H E fs hr => ?_
  exact (rss_cons (rs_par (i := 2) (j := 3) rfl sc__law_turned.nd rfl rfl (by decide) rfl rfl (ra_cons (re_listRg1 rfl rfl T.b_list rfl T.b_range (rv 1)) (ra_cons (re_lst ra_nil) ra_nil)) rfl)
      (rss_cons (rs_for (passes_of rfl) rfl (ri_range1 rfl T.b_range (ra_cons (rv 1) ra_nil)) (rg_name (i := 4) sc__law_turned.nd rfl (Or.inl rfl)) (rss_one (rs_expr (re_meth PySem.F.plainAttrs_list PySem.F.slot_list_append PySem.F.type_list_append mt_append meth_append (rv 3) (ra_cons (re_meth PySem.F.plainAttrs_list PySem.F.slot_list_pop PySem.F.type_list_pop mt_popAt meth_popAt (rv 2) (ra_cons (re_call (n := 2) F__law_draw (hr.mono (by decide)) rfl (takes_of rfl rfl rfl rfl) (ra_cons (rv 0) (ra_cons (re_callB call_lenM rfl T.b_len PySem.boot_len (ra_cons (rv 2) ra_nil)) ra_nil))) ra_nil)) ra_nil)))))
      (rss_one (rs_ret (rv 3)))))

theorem ok__law_ground {f__law_ground : Addr} {fd__law_ground : FuncData} (D__law_ground : DefAt K mg "_law_ground" s__law_ground ["pool", "most", "many"] f__law_ground fd__law_ground) (T : Txt K mg) (F__law_pick : FnM ⟨P, w, K, mg, base, TZ⟩ "_law_pick" 2 0 [false, false] M__law_pick) (F__law_draw : FnM ⟨P, w, K, mg, base, TZ⟩ "_law_draw" 1 0 [false, false] M__law_draw) (F__law_turned : FnM ⟨P, w, K, mg, base, TZ⟩ "_law_turned" 2 0 [false, false] M__law_turned) :
    FnM ⟨P, w, K, mg, base, TZ⟩ "_law_ground" 3 0 [false, false, false] M__law_ground := by
  refine okM D__law_ground sc__law_ground rfl rfl fun cdv A outer s H E fs hr => ?_
  exact (rss_cons (rs_set (i := 3) sc__law_ground.nd rfl (Or.inr rfl) (re_call (n := 2) F__law_pick (hr.mono (by decide)) rfl (takes_of rfl rfl rfl rfl) (ra_cons (rv 0) (ra_cons (re_lst (ra_cons re_int (ra_cons re_int (ra_cons re_int (ra_cons re_int (ra_cons re_int (ra_cons re_int (ra_cons re_int (ra_cons re_int (ra_cons re_int (ra_cons re_int (ra_cons re_int (ra_cons re_int ra_nil))))))))))))) ra_nil))))
      (rss_cons (rs_set (i := 4) sc__law_ground.nd rfl (Or.inl rfl) (re_bin op_addM re_int (re_call (n := 2) F__law_draw (hr.mono (by decide)) rfl (takes_of rfl rfl rfl rfl) (ra_cons (rv 0) (ra_cons (re_callB (call_min2M rfl) rfl T.b_min (by decide +kernel) (ra_cons (rv 2) (ra_cons (re_bin op_addM (rv 3) re_int) ra_nil))) ra_nil)))))
      (rss_cons (rs_if (rt_cmp op_ltM (rv 3) re_int (nomark _)) (rss_one (rs_set (i := 5) sc__law_ground.nd rfl (Or.inl rfl) (re_slice (re_call (n := 2) F__law_turned (hr.mono (by decide)) rfl (takes_of rfl rfl rfl rfl) (ra_cons (rv 0) (ra_cons (re_bin op_addM (rv 3) re_int) ra_nil))) ro_none (ro_some (rv 4))))) (rss_cons (rs_asg (re_tup (ra_cons (re_call (n := 2) F__law_draw (hr.mono (by decide)) rfl (takes_of rfl rfl rfl rfl) (ra_cons (rv 0) (ra_cons (re_bin op_addM (rv 3) re_int) ra_nil))) (ra_cons (re_bin op_addM re_int (re_call (n := 2) F__law_draw (hr.mono (by decide)) rfl (takes_of rfl rfl rfl rfl) (ra_cons (rv 0) (ra_cons (re_bin op_divM (re_bin op_addM (rv 3) re_int) re_int) ra_nil)))) ra_nil))) (rg_tup rfl (rgs_cons (rg_name (i := 6) sc__law_ground.nd rfl (Or.inr rfl)) (rgs_cons (rg_name (i := 7) sc__law_ground.nd rfl (Or.inr rfl)) rgs_nil))))
      (rss_cons (rs_setLc (i := 5) (ownS := [("at", 8)]) rfl sc__law_ground.nd rfl rfl (sw_true rfl rfl rfl (by decide +kernel)) (ri_range1 rfl T.b_range (ra_cons (rv 4) ra_nil)) (blkOk_by (N := N__law_ground) (sc := defScope s__law_ground) (by decide +kernel)) (rgw_name (i := 8) (fun _ _ _ _ _ => pg_name (i := 8) sc__law_ground.nd rfl (by first | exact Or.inl rfl | exact Or.inr rfl)) (by decide)) rts_nil (fun _ _ _ _ _ => re_bin op_modM (re_callTy call_toIntM rfl T.b_int (by decide +kernel) (ra_cons (re_bin op_addM (rv 6) (re_bin op_mulM (rv 8) (rv 7))) ra_nil)) (re_bin op_addM (rv 3) re_int)))
      (rss_one (rs_if (RW.rt (rw_and (rt_cmp op_notInM (rv 3) (rv 5) (by rfl)) (rw_and1 (rt_cmp (op_eqM hr.units) (re_call (n := 2) F__law_draw (hr.mono (by decide)) rfl (takes_of rfl rfl rfl rfl) (ra_cons (rv 0) (ra_cons re_int ra_nil))) re_int (nomark _))))) (rss_one (rs_asg (rv 3) (rg_sub (W := We) (rv 5) (re_call (n := 2) F__law_draw (hr.mono (by decide)) rfl takes0 (ra_cons (rv 0) (ra_cons (rv 4) ra_nil)))))) (rss_nil))))))
      (rss_one (rs_ret (re_tup (ra_cons (rv 3) (ra_cons (re_bin op_addM re_int (re_call (n := 2) F__law_draw (hr.mono (by decide)) rfl (takes_of rfl rfl rfl rfl) (ra_cons (rv 0) (ra_cons (rv 1) ra_nil)))) (ra_cons (re_callTy call_tupleM rfl T.b_tuple (by decide +kernel) (ra_cons (rv 5) ra_nil)) ra_nil)))))))))

theorem ok__law_batch {f__law_batch : Addr} {fd__law_batch : FuncData} (D__law_batch : DefAt K mg "_law_batch" s__law_batch ["pool", "ground"] f__law_batch fd__law_batch) (T : Txt K mg) (F__law_draw : FnM ⟨P, w, K, mg, base, TZ⟩ "_law_draw" 1 0 [false, false] M__law_draw) :
    FnM ⟨P, w, K, mg, base, TZ⟩ "_law_batch" 2 0 [false, false] M__law_batch := by
  refine okM D__law_batch sc__law_batch rfl rfl fun cdv A outer s H E fs hr => ?_
  exact (rss_cons (rs_asg (rv 1) (rg_tup rfl (rgs_cons (rg_name (i := 2) sc__law_batch.nd rfl (Or.inr rfl)) (rgs_cons (rg_name (i := 3) sc__law_batch.nd rfl (Or.inl rfl)) (rgs_cons (rg_name (i := 4) sc__law_batch.nd rfl (Or.inl rfl)) rgs_nil)))))
      (rss_cons (rs_if (rt_cmp op_gtM (re_call (n := 2) F__law_draw (hr.mono (by decide)) rfl (takes_of rfl rfl rfl rfl) (ra_cons (rv 0) (ra_cons re_int ra_nil))) re_int (nomark _)) (rss_one (rs_ret (re_callTy call_tupleM rfl T.b_tuple (by decide +kernel) (ra_cons (re_lc (ownS := [("place", 5)]) rfl sc__law_batch.nd (ri_range1 rfl T.b_range (ra_cons (rv 3) ra_nil)) (blkOk_by (N := N__law_batch) (sc := defScope s__law_batch) (by decide +kernel)) (rgw_name (i := 5) (fun _ _ _ _ _ => pg_name (i := 5) sc__law_batch.nd rfl (by first | exact Or.inl rfl | exact Or.inr rfl)) (by decide)) rts_nil (fun _ _ _ _ _ => re_call (n := 2) F__law_draw (hr.mono (by decide)) rfl takes0 (ra_cons (rv 0) (ra_cons (rv 2) ra_nil)))) ra_nil)))) (rss_nil))
      (rss_cons (rs_set (i := 5) sc__law_batch.nd rfl (Or.inr rfl) (re_call (n := 2) F__law_draw (hr.mono (by decide)) rfl (takes_of rfl rfl rfl rfl) (ra_cons (rv 0) (ra_cons (rv 3) ra_nil))))
      (rss_one (rs_ret (re_callTy call_tupleM rfl T.b_tuple (by decide +kernel) (ra_cons (re_lc (ownS := [("at", 6)]) rfl sc__law_batch.nd (ri_range1 rfl T.b_range (ra_cons (rv 3) ra_nil)) (blkOk_by (N := N__law_batch) (sc := defScope s__law_batch) (by decide +kernel)) (rgw_name (i := 6) (fun _ _ _ _ _ => pg_name (i := 6) sc__law_batch.nd rfl (by first | exact Or.inl rfl | exact Or.inr rfl)) (by decide)) rts_nil (fun _ _ _ _ _ => re_if (rt_cmp (op_eqM hr.units) (rv 6) (rv 5) (nomark _)) (re_bin op_subM (rv 2) re_int) re_int)) ra_nil)))))))

theorem ok__law_heard_11 {f__law_heard : Addr} {fd__law_heard : FuncData} {fI CR : Addr} {C_BadGround : Addr} {C_BadBatch : Addr} {C_BadShelf : Addr} {C_BadPlace : Addr} (D__law_heard : DefAt K mg "_law_heard" s__law_heard ["call"] f__law_heard fd__law_heard) (T : Txt K mg) (EO : ErrsOk K mg errsL hnsL) (X_BadGround : ErrC K mg "BadGround" C_BadGround fI CR) (X_BadBatch : ErrC K mg "BadBatch" C_BadBatch fI CR) (X_BadShelf : ErrC K mg "BadShelf" C_BadShelf fI CR) (X_BadPlace : ErrC K mg "BadPlace" C_BadPlace fI CR) (gR : mg "Refused" = some (.ref CR)) :
    FnM ⟨P, w, K, mg, base, TZ⟩ "_law_heard" 12 11 [true] M__law_heard := by
  refine okM D__law_heard sc__law_heard rfl rfl fun cdv A outer s H E fs hr => ?_
  match fs with
  | [φ_call] =>
    exact (rss_one (rs_try EO rfl rfl rfl sc__law_heard.nd (takes_of rfl rfl rfl rfl) (fun W pn xe tk hpo => rss_one (rs_ret (re_tup (ra_cons re_str (ra_cons (re_callP0 (i := 0) rfl rfl hr (show 11 ≤ 11 by decide) tk rfl (Or.inl rfl)) ra_nil))))) (HdsR.consN rfl (by decide) ⟨_, X_BadGround.g⟩ rfl rfl (fun a oe cls dcl pn C dd d hz hf e1 e2 x1 x2 x3 => rss_one (rs_ret (re_tup (ra_cons re_str (ra_cons (re_what hz hf e1 e2 x1 x2) ra_nil))))) (HdsR.consN rfl (by decide) ⟨_, X_BadBatch.g⟩ rfl rfl (fun a oe cls dcl pn C dd d hz hf e1 e2 x1 x2 x3 => rss_one (rs_ret (re_tup (ra_cons re_str (ra_cons (re_what hz hf e1 e2 x1 x2) ra_nil))))) (HdsR.consN rfl (by decide) ⟨_, X_BadShelf.g⟩ rfl rfl (fun a oe cls dcl pn C dd d hz hf e1 e2 x1 x2 x3 => rss_one (rs_ret (re_tup (ra_cons re_str (ra_cons (re_what hz hf e1 e2 x1 x2) ra_nil))))) (HdsR.consN rfl (by decide) ⟨_, X_BadPlace.g⟩ rfl rfl (fun a oe cls dcl pn C dd d hz hf e1 e2 x1 x2 x3 => rss_one (rs_ret (re_tup (ra_cons re_str (ra_cons (re_what hz hf e1 e2 x1 x2) ra_nil))))) (HdsR.cons rfl (by decide) ⟨_, gR⟩ (fun a oe cls dcl pn C dd d hz hf e1 e2 x1 x2 x3 => rss_one (rs_ret (re_tup (ra_cons re_str (ra_cons re_int ra_nil))))) HdsR.nil)))))))
  | [] => exact rss_no
  | _ :: _ :: _ => exact rss_no

theorem ok__law_is_11 {f__law_is : Addr} {fd__law_is : FuncData} (D__law_is : DefAt K mg "_law_is" s__law_is ["call", "name", "what"] f__law_is fd__law_is) (T : Txt K mg) (F__law_heard_11 : FnM ⟨P, w, K, mg, base, TZ⟩ "_law_heard" 12 11 [true] M__law_heard) :
    FnM ⟨P, w, K, mg, base, TZ⟩ "_law_is" 13 11 [true, false, false] M__law_is := by
  refine okM D__law_is sc__law_is rfl rfl fun cdv A outer s H E fs hr => ?_
  match fs with
  | [φ_call] =>
    exact (rss_cons (rs_set (i := 3) sc__law_is.nd rfl (Or.inl rfl) (re_callF F__law_heard_11 (hr.mono (by decide)) rfl (takes_of rfl rfl rfl rfl) (rf_slot (i := 0) (hl := rfl) (hex := rfl) (hN := rfl) (hv := Or.inl rfl))))
      (rss_one (rs_ret (re_and (re_cmp (op_eqM hr.units) (re_ix ix_M (rv 3) re_int (fun _ _ => rfl)) (rv 1) (nomark _)) (re_one (re_cmp (op_eqM hr.units) (re_callB call_reprM rfl T.b_repr (by decide +kernel) (ra_cons (re_ix ix_M (rv 3) re_int (fun _ _ => rfl)) ra_nil)) (re_callB call_reprM rfl T.b_repr (by decide +kernel) (ra_cons (rv 2) ra_nil)) (nomark _)))))))
  | [] => exact rss_no
  | _ :: _ :: _ => exact rss_no

theorem ok_is_number {f_is_number : Addr} {fd_is_number : FuncData} (D_is_number : DefAt K mg "is_number" s_is_number ["thing"] f_is_number fd_is_number) (T : Txt K mg) :
    FnM ⟨P, w, K, mg, base, TZ⟩ "is_number" 1 0 [false] M_is_number := by
  refine okM D_is_number sc_is_number rfl rfl fun cdv A outer s H E fs hr => ?_
  exact (rss_one (rs_ret (re_and (re_isi (T := "int") rfl rfl T.b_isinstance rfl T.b_int (by decide +kernel) (rv 0)) (re_one (re_not (re_isi (T := "bool") rfl rfl T.b_isinstance rfl T.b_bool (by decide +kernel) (rv 0)))))))

theorem ok_number_between {f_number_between : Addr} {fd_number_between : FuncData} (D_number_between : DefAt K mg "number_between" s_number_between ["thing", "least", "most"] f_number_between fd_number_between) (T : Txt K mg) (F_is_number : FnM ⟨P, w, K, mg, base, TZ⟩ "is_number" 1 0 [false] M_is_number) :
    FnM ⟨P, w, K, mg, base, TZ⟩ "number_between" 2 0 [false, false, false] M_number_between := by
  refine okM D_number_between sc_number_between rfl rfl fun cdv A outer s H E fs hr => ?_
  exact (rss_one (rs_ret (re_and (re_call (n := 1) F_is_number (hr.mono (by decide)) rfl (takes_of rfl rfl rfl rfl) (ra_cons (rv 0) ra_nil)) (re_one (re_chain op_leM op_leM (rv 1) (rv 0) (rv 2))))))

theorem ok_is_prime {f_is_prime : Addr} {fd_is_prime : FuncData} (D_is_prime : DefAt K mg "is_prime" s_is_prime ["n"] f_is_prime fd_is_prime) (T : Txt K mg) (F_number_between : FnM ⟨P, w, K, mg, base, TZ⟩ "number_between" 2 0 [false, false, false] M_number_between) :
    FnM ⟨P, w, K, mg, base, TZ⟩ "is_prime" 3 0 [false] M_is_prime := by
  refine okM D_is_prime sc_is_prime rfl rfl fun cdv A outer s H E fs hr => ?_
  exact (rss_cons (rs_if (rt_not (rt_tru (re_call (n := 3) F_number_between (hr.mono (by decide)) rfl (takes_of rfl rfl rfl rfl) (ra_cons (rv 0) (ra_cons re_int (ra_cons (re_gint rfl T.c_MOST_PRIME) ra_nil)))))) (rss_one (rs_ret re_bl)) (rss_nil))
      (rss_cons (rs_set (i := 1) sc_is_prime.nd rfl (Or.inl rfl) re_int)
      (rss_cons (rs_while (passes_of rfl) (rt_cmp op_leM (re_bin op_mulM (rv 1) (rv 1)) (rv 0) (nomark _)) (rss_cons (rs_if (rt_cmp (op_eqM hr.units) (re_bin op_modM (rv 0) (rv 1)) re_int (nomark _)) (rss_one (rs_ret re_bl)) (rss_nil))
      (rss_one (rs_aug (i := 1) sc_is_prime.nd rfl (Or.inl rfl) re_int ip_addM))))
      (rss_one (rs_ret re_bl)))))

theorem ok_tuple_fault_3 {f_tuple_fault : Addr} {fd_tuple_fault : FuncData} (D_tuple_fault : DefAt K mg "tuple_fault" s_tuple_fault ["thing", "least", "most", "fits"] f_tuple_fault fd_tuple_fault) (T : Txt K mg) :
    FnM ⟨P, w, K, mg, base, TZ⟩ "tuple_fault" 4 3 [false, false, false, true] M_tuple_fault := by
  refine okM D_tuple_fault sc_tuple_fault rfl rfl fun cdv A outer s H E fs hr => ?_
  match fs with
  | [φ_fits] =>
    exact (rss_cons (rs_if (RW.rt (rw_or (rt_not (rt_tru (re_isi (T := "tuple") rfl rfl T.b_isinstance rfl T.b_tuple (by decide +kernel) (rv 0)))) (rw_or1 (rt_not (rt_chain op_leM op_leM (rv 1) (re_callB call_lenM rfl T.b_len PySem.boot_len (ra_cons (rv 0) ra_nil)) (rv 2)))))) (rss_one (rs_ret (re_neg re_int))) (rss_nil))
      (rss_cons (rs_for (passes_of rfl) rfl (ri_enum rfl T.b_enumerate (ra_cons (rv 0) ra_nil)) (rg_tup rfl (rgs_cons (rg_name (i := 4) sc_tuple_fault.nd rfl (Or.inl rfl)) (rgs_cons (rg_name (i := 5) sc_tuple_fault.nd rfl (Or.inl rfl)) rgs_nil))) (rss_one (rs_if (rt_not (rt_tru (re_callP (i := 3) rfl rfl hr (show 3 ≤ 3 by decide) (takes_of rfl rfl rfl rfl) rfl (Or.inl rfl) (ra_cons (rv 5) ra_nil)))) (rss_one (rs_ret (rv 4))) (rss_nil))))
      (rss_one (rs_ret re_non))))
  | [] => exact rss_no
  | _ :: _ :: _ => exact rss_no

theorem ok_tuple_fits_3 {f_tuple_fits : Addr} {fd_tuple_fits : FuncData} (D_tuple_fits : DefAt K mg "tuple_fits" s_tuple_fits ["thing", "least", "most", "fits"] f_tuple_fits fd_tuple_fits) (T : Txt K mg) (F_tuple_fault_3 : FnM ⟨P, w, K, mg, base, TZ⟩ "tuple_fault" 4 3 [false, false, false, true] M_tuple_fault) :
    FnM ⟨P, w, K, mg, base, TZ⟩ "tuple_fits" 5 3 [false, false, false, true] M_tuple_fits := by
  refine okM D_tuple_fits sc_tuple_fits rfl rfl fun cdv A outer s H E fs hr => ?_
  match fs with
  | [φ_fits] =>
    exact (rss_one (rs_ret (re_cmp op_isM (re_callF F_tuple_fault_3 (hr.mono (by decide)) rfl (takes_of rfl rfl rfl rfl) (rf_cons (rv 0) (rf_cons (rv 1) (rf_cons (rv 2) (rf_slot (i := 3) (hl := rfl) (hex := rfl) (hN := rfl) (hv := Or.inl rfl)))))) re_non (nomark _))))
  | [] => exact rss_no
  | _ :: _ :: _ => exact rss_no

theorem ok_numbers_fit {f_numbers_fit : Addr} {fd_numbers_fit : FuncData} {c_numbers_fit P_numbers_fit : Addr} (D_numbers_fit : DefAt K mg "numbers_fit" s_numbers_fit ["thing", "least", "most", "greatest"] f_numbers_fit fd_numbers_fit) (C_numbers_fit : CodeAt K "numbers_fit" s_numbers_fit f_numbers_fit fd_numbers_fit c_numbers_fit) (L_numbers_fit : LamAt TZ base mg "numbers_fit" c_numbers_fit P_numbers_fit) (T : Txt K mg) (F_tuple_fits_3 : FnM ⟨P, w, K, mg, base, TZ⟩ "tuple_fits" 5 3 [false, false, false, true] M_tuple_fits) (F_number_between : FnM ⟨P, w, K, mg, base, TZ⟩ "number_between" 2 0 [false, false, false] M_number_between) :
    FnM ⟨P, w, K, mg, base, TZ⟩ "numbers_fit" 6 0 [false, false, false, false] M_numbers_fit := by
  refine okMc D_numbers_fit (CodeV.at C_numbers_fit) sc_numbers_fit rfl rfl fun A outer s H E fs hr => ?_
  exact (rss_one (rs_ret (re_callF F_tuple_fits_3 (hr.mono (by decide)) rfl (takes_of rfl rfl rfl rfl) (rf_cons (rv 0) (rf_cons (rv 1) (rf_cons (rv 2) (rf_lam (x := "numbers_fit") ["number", "greatest"] ["greatest"] ["number"] [3] 2 0 (defScope s_numbers_fit) L_numbers_fit (fun q cl f c A outer s H E hr => re_call (n := 3) F_number_between (hr.mono (by decide)) rfl (takes_of rfl rfl rfl rfl) (ra_cons (rv 0) (ra_cons re_int (ra_cons (rv 1) ra_nil)))) (hb := fun _ _ us _ _ _ hl => match us, hl with | [_], _ => rfl))))))))

theorem ok_points_fit {f_points_fit : Addr} {fd_points_fit : FuncData} (D_points_fit : DefAt K mg "points_fit" s_points_fit ["p", "thing"] f_points_fit fd_points_fit) (T : Txt K mg) (F_numbers_fit : FnM ⟨P, w, K, mg, base, TZ⟩ "numbers_fit" 6 0 [false, false, false, false] M_numbers_fit) :
    FnM ⟨P, w, K, mg, base, TZ⟩ "points_fit" 7 0 [false, false] M_points_fit := by
  refine okM D_points_fit sc_points_fit rfl rfl fun cdv A outer s H E fs hr => ?_
  exact (rss_one (rs_ret (re_and (re_call (n := 4) F_numbers_fit (hr.mono (by decide)) rfl (takes_of rfl rfl rfl rfl) (ra_cons (rv 1) (ra_cons re_int (ra_cons (re_gint rfl T.c_MOST_SHELVES) (ra_cons (rv 0) ra_nil))))) (re_one (re_cmp (op_eqM hr.units) (re_lenSet rfl T.b_len rfl T.b_set (rv 1)) (re_callB call_lenM rfl T.b_len PySem.boot_len (ra_cons (rv 1) ra_nil)) (nomark _))))))

theorem ok_ground_fault {f_ground_fault : Addr} {fd_ground_fault : FuncData} (D_ground_fault : DefAt K mg "ground_fault" s_ground_fault ["thing"] f_ground_fault fd_ground_fault) (T : Txt K mg) (F_is_prime : FnM ⟨P, w, K, mg, base, TZ⟩ "is_prime" 3 0 [false] M_is_prime) (F_number_between : FnM ⟨P, w, K, mg, base, TZ⟩ "number_between" 2 0 [false, false, false] M_number_between) (F_points_fit : FnM ⟨P, w, K, mg, base, TZ⟩ "points_fit" 7 0 [false, false] M_points_fit) :
    FnM ⟨P, w, K, mg, base, TZ⟩ "ground_fault" 8 0 [false] M_ground_fault := by
  refine okM D_ground_fault sc_ground_fault rfl rfl fun cdv A outer s H E fs hr => ?_
  exact (rss_cons (rs_if (RW.rt (rw_or (rt_not (rt_tru (re_isi (T := "tuple") rfl rfl T.b_isinstance rfl T.b_tuple (by decide +kernel) (rv 0)))) (rw_or1 (rt_cmp (op_neM hr.units) (re_callB call_lenM rfl T.b_len PySem.boot_len (ra_cons (rv 0) ra_nil)) re_int (nomark _))))) (rss_one (rs_ret (re_neg re_int))) (rss_nil))
      (rss_cons (rs_if (rt_not (rt_tru (re_call (n := 1) F_is_prime (hr.mono (by decide)) rfl (takes_of rfl rfl rfl rfl) (ra_cons (re_ix ix_M (rv 0) re_int (fun _ _ => rfl)) ra_nil)))) (rss_one (rs_ret re_int)) (rss_nil))
      (rss_cons (rs_if (rt_not (rt_tru (re_call (n := 3) F_number_between (hr.mono (by decide)) rfl (takes_of rfl rfl rfl rfl) (ra_cons (re_ix ix_M (rv 0) re_int (fun _ _ => rfl)) (ra_cons re_int (ra_cons (re_gint rfl T.c_MOST_NUMBERS) ra_nil)))))) (rss_one (rs_ret re_int)) (rss_nil))
      (rss_cons (rs_if (rt_not (rt_tru (re_call (n := 2) F_points_fit (hr.mono (by decide)) rfl (takes_of rfl rfl rfl rfl) (ra_cons (re_ix ix_M (rv 0) re_int (fun _ _ => rfl)) (ra_cons (re_ix ix_M (rv 0) re_int (fun _ _ => rfl)) ra_nil))))) (rss_one (rs_ret re_int)) (rss_nil))
      (rss_one (rs_ret re_non))))))

theorem ok_made_ground {f_made_ground : Addr} {fd_made_ground : FuncData} {fI CR : Addr} {fdI : FuncData} {C_BadGround : Addr} (D_made_ground : DefAt K mg "made_ground" s_made_ground ["thing"] f_made_ground fd_made_ground) (T : Txt K mg) (F_ground_fault : FnM ⟨P, w, K, mg, base, TZ⟩ "ground_fault" 8 0 [false] M_ground_fault) (G_init : FnOk P w K mg base CX0 1 fI fdI ["self", "what"] (spErrInit K)) (b_init : Binds K fdI ["self", "what"] []) (X_BadGround : ErrC K mg "BadGround" C_BadGround fI CR) :
    FnM ⟨P, w, K, mg, base, TZ⟩ "made_ground" 9 0 [false] M_made_ground := by
  refine okM D_made_ground sc_made_ground rfl rfl fun cdv A outer s H E fs hr => ?_
  exact (rss_cons (rs_set (i := 1) sc_made_ground.nd rfl (Or.inl rfl) (re_call (n := 1) F_ground_fault (hr.mono (by decide)) rfl (takes_of rfl rfl rfl rfl) (ra_cons (rv 0) ra_nil)))
      (rss_cons (rs_if (rt_cmp op_isNotM (rv 1) re_non (nomark _)) (rss_one (rs_raise X_BadGround G_init b_init (hr.mono (by decide)) rfl (takes_of rfl rfl rfl rfl) rfl (ra_cons (rv 1) ra_nil))) (rss_nil))
      (rss_one (rs_ret (rv 0)))))

theorem ok_shelf_fits {f_shelf_fits : Addr} {fd_shelf_fits : FuncData} (D_shelf_fits : DefAt K mg "shelf_fits" s_shelf_fits ["ground", "thing"] f_shelf_fits fd_shelf_fits) (T : Txt K mg) (F_number_between : FnM ⟨P, w, K, mg, base, TZ⟩ "number_between" 2 0 [false, false, false] M_number_between) :
    FnM ⟨P, w, K, mg, base, TZ⟩ "shelf_fits" 3 0 [false, false] M_shelf_fits := by
  refine okM D_shelf_fits sc_shelf_fits rfl rfl fun cdv A outer s H E fs hr => ?_
  exact (rss_one (rs_ret (re_call (n := 3) F_number_between (hr.mono (by decide)) rfl (takes_of rfl rfl rfl rfl) (ra_cons (rv 1) (ra_cons re_int (ra_cons (re_bin op_subM (re_callB call_lenM rfl T.b_len PySem.boot_len (ra_cons (re_ix ix_M (rv 0) re_int (fun _ _ => rfl)) ra_nil)) re_int) ra_nil))))))

theorem ok_made_shelf {f_made_shelf : Addr} {fd_made_shelf : FuncData} {fI CR : Addr} {fdI : FuncData} {C_BadShelf : Addr} (D_made_shelf : DefAt K mg "made_shelf" s_made_shelf ["ground", "thing"] f_made_shelf fd_made_shelf) (T : Txt K mg) (F_shelf_fits : FnM ⟨P, w, K, mg, base, TZ⟩ "shelf_fits" 3 0 [false, false] M_shelf_fits) (G_init : FnOk P w K mg base CX0 1 fI fdI ["self", "what"] (spErrInit K)) (b_init : Binds K fdI ["self", "what"] []) (X_BadShelf : ErrC K mg "BadShelf" C_BadShelf fI CR) :
    FnM ⟨P, w, K, mg, base, TZ⟩ "made_shelf" 4 0 [false, false] M_made_shelf := by
  refine okM D_made_shelf sc_made_shelf rfl rfl fun cdv A outer s H E fs hr => ?_
  exact (rss_cons (rs_if (rt_not (rt_tru (re_call (n := 2) F_shelf_fits (hr.mono (by decide)) rfl (takes_of rfl rfl rfl rfl) (ra_cons (rv 0) (ra_cons (rv 1) ra_nil))))) (rss_one (rs_raise X_BadShelf G_init b_init (hr.mono (by decide)) rfl (takes_of rfl rfl rfl rfl) rfl (ra_cons (rv 1) ra_nil))) (rss_nil))
      (rss_one (rs_ret (rv 1))))

theorem ok_point_of {f_point_of : Addr} {fd_point_of : FuncData} (D_point_of : DefAt K mg "point_of" s_point_of ["ground", "shelf"] f_point_of fd_point_of) (T : Txt K mg) (F_made_shelf : FnM ⟨P, w, K, mg, base, TZ⟩ "made_shelf" 4 0 [false, false] M_made_shelf) :
    FnM ⟨P, w, K, mg, base, TZ⟩ "point_of" 5 0 [false, false] M_point_of := by
  refine okM D_point_of sc_point_of rfl rfl fun cdv A outer s H E fs hr => ?_
  exact (rss_one (rs_ret (re_ix ix_M (re_ix ix_M (rv 0) re_int (fun _ _ => rfl)) (re_call (n := 2) F_made_shelf (hr.mono (by decide)) rfl (takes_of rfl rfl rfl rfl) (ra_cons (rv 0) (ra_cons (rv 1) ra_nil))) (fun _ _ => rfl))))

theorem ok_powers {f_powers : Addr} {fd_powers : FuncData} (D_powers : DefAt K mg "powers" s_powers ["p", "a", "many"] f_powers fd_powers) (T : Txt K mg) :
    FnM ⟨P, w, K, mg, base, TZ⟩ "powers" 1 0 [false, false, false] M_powers := by
  refine okM D_powers sc_powers rfl rfl fun cdv A outer s H E fs hr => ?_
  exact (rss_cons (rs_set (i := 3) sc_powers.nd rfl (Or.inl rfl) (re_lst (ra_cons re_int ra_nil)))
      (rss_cons (rs_for (passes_of rfl) rfl (ri_range1 rfl T.b_range (ra_cons (re_bin op_subM (rv 2) re_int) ra_nil)) (rg_name (i := 4) sc_powers.nd rfl (Or.inl rfl)) (rss_one (rs_expr (re_meth PySem.F.plainAttrs_list PySem.F.slot_list_append PySem.F.type_list_append mt_append meth_append (rv 3) (ra_cons (re_bin op_modM (re_bin op_mulM (re_ix ix_M (rv 3) (re_neg re_int) (fun _ _ => rfl)) (rv 1)) (rv 0)) ra_nil)))))
      (rss_one (rs_ret (rv 3)))))

theorem ok_later_weights {f_later_weights : Addr} {fd_later_weights : FuncData} (D_later_weights : DefAt K mg "later_weights" s_later_weights ["p", "point", "weights"] f_later_weights fd_later_weights) (T : Txt K mg) :
    FnM ⟨P, w, K, mg, base, TZ⟩ "later_weights" 1 0 [false, false, false] M_later_weights := by
  refine okM D_later_weights sc_later_weights rfl rfl fun cdv A outer s H E fs hr => ?_
  exact (rss_cons (rs_set (i := 3) sc_later_weights.nd rfl (Or.inl rfl) (re_lst (ra_cons re_int ra_nil)))
      (rss_cons (rs_for (passes_of rfl) rfl (ri_seq (re_slice (rv 2) ro_none (ro_some (re_neg re_int)))) (rg_name (i := 4) sc_later_weights.nd rfl (Or.inl rfl)) (rss_one (rs_expr (re_meth PySem.F.plainAttrs_list PySem.F.slot_list_append PySem.F.type_list_append mt_append meth_append (rv 3) (ra_cons (re_bin op_modM (re_bin op_addM (re_bin op_mulM (rv 1) (re_ix ix_M (rv 3) (re_neg re_int) (fun _ _ => rfl))) (rv 4)) (rv 0)) ra_nil)))))
      (rss_one (rs_ret (rv 3)))))

theorem ok_value_weights {f_value_weights : Addr} {fd_value_weights : FuncData} (D_value_weights : DefAt K mg "value_weights" s_value_weights ["p", "many", "point", "j"] f_value_weights fd_value_weights) (T : Txt K mg) (F_powers : FnM ⟨P, w, K, mg, base, TZ⟩ "powers" 1 0 [false, false, false] M_powers) (F_later_weights : FnM ⟨P, w, K, mg, base, TZ⟩ "later_weights" 1 0 [false, false, false] M_later_weights) :
    FnM ⟨P, w, K, mg, base, TZ⟩ "value_weights" 2 0 [false, false, false, false] M_value_weights := by
  refine okM D_value_weights sc_value_weights rfl rfl fun cdv A outer s H E fs hr => ?_
  exact (rss_cons (rs_if (rt_cmp (op_eqM hr.units) (rv 2) (rv 0) (nomark _)) (rss_one (rs_ret (re_callTy call_tupleM rfl T.b_tuple (by decide +kernel) (ra_cons (re_lc (ownS := [("t", 6)]) rfl sc_value_weights.nd (ri_range1 rfl T.b_range (ra_cons (rv 1) ra_nil)) (blkOk_by (N := N_value_weights) (sc := defScope s_value_weights) (by decide +kernel)) (rgw_name (i := 6) (fun _ _ _ _ _ => pg_name (i := 6) sc_value_weights.nd rfl (by first | exact Or.inl rfl | exact Or.inr rfl)) (by decide)) rts_nil (fun _ _ _ _ _ => re_if (rt_cmp (op_eqM hr.units) (rv 6) (re_bin op_subM (re_bin op_subM (rv 1) re_int) (rv 3)) (nomark _)) re_int re_int)) ra_nil)))) (rss_nil))
      (rss_cons (rs_if (rt_cmp op_geM (rv 3) (rv 1) (nomark _)) (rss_one (rs_ret (re_bin op_mulM (re_tup (ra_cons re_int ra_nil)) (rv 1)))) (rss_nil))
      (rss_cons (rs_set (i := 4) sc_value_weights.nd rfl (Or.inl rfl) (re_call (n := 3) F_powers (hr.mono (by decide)) rfl (takes_of rfl rfl rfl rfl) (ra_cons (rv 0) (ra_cons (rv 2) (ra_cons (rv 1) ra_nil)))))
      (rss_cons (rs_for (passes_of rfl) rfl (ri_range1 rfl T.b_range (ra_cons (rv 3) ra_nil)) (rg_name (i := 5) sc_value_weights.nd rfl (Or.inl rfl)) (rss_one (rs_set (i := 4) sc_value_weights.nd rfl (Or.inl rfl) (re_call (n := 3) F_later_weights (hr.mono (by decide)) rfl (takes_of rfl rfl rfl rfl) (ra_cons (rv 0) (ra_cons (rv 2) (ra_cons (rv 4) ra_nil)))))))
      (rss_one (rs_ret (re_callTy call_tupleM rfl T.b_tuple (by decide +kernel) (ra_cons (rv 4) ra_nil))))))))

theorem ok_equation {f_equation : Addr} {fd_equation : FuncData} {fI CR : Addr} {fdI : FuncData} {C_BadPlace : Addr} (D_equation : DefAt K mg "equation" s_equation ["ground", "shelf", "j"] f_equation fd_equation) (T : Txt K mg) (F_made_ground : FnM ⟨P, w, K, mg, base, TZ⟩ "made_ground" 9 0 [false] M_made_ground) (F_point_of : FnM ⟨P, w, K, mg, base, TZ⟩ "point_of" 5 0 [false, false] M_point_of) (F_value_weights : FnM ⟨P, w, K, mg, base, TZ⟩ "value_weights" 2 0 [false, false, false, false] M_value_weights) (F_number_between : FnM ⟨P, w, K, mg, base, TZ⟩ "number_between" 2 0 [false, false, false] M_number_between) (G_init : FnOk P w K mg base CX0 1 fI fdI ["self", "what"] (spErrInit K)) (b_init : Binds K fdI ["self", "what"] []) (X_BadPlace : ErrC K mg "BadPlace" C_BadPlace fI CR) :
    FnM ⟨P, w, K, mg, base, TZ⟩ "equation" 10 0 [false, false, false] M_equation := by
  refine okM D_equation sc_equation rfl rfl fun cdv A outer s H E fs hr => ?_
  exact (rss_cons (rs_asg (re_call (n := 1) F_made_ground (hr.mono (by decide)) rfl (takes_of rfl rfl rfl rfl) (ra_cons (rv 0) ra_nil)) (rg_tup rfl (rgs_cons (rg_name (i := 3) sc_equation.nd rfl (Or.inl rfl)) (rgs_cons (rg_name (i := 4) sc_equation.nd rfl (Or.inl rfl)) (rgs_cons (rg_name (i := 5) sc_equation.nd rfl (Or.inl rfl)) rgs_nil)))))
      (rss_cons (rs_set (i := 6) sc_equation.nd rfl (Or.inl rfl) (re_call (n := 2) F_point_of (hr.mono (by decide)) rfl (takes_of rfl rfl rfl rfl) (ra_cons (rv 0) (ra_cons (rv 1) ra_nil))))
      (rss_cons (rs_if (rt_not (rt_tru (re_call (n := 3) F_number_between (hr.mono (by decide)) rfl (takes_of rfl rfl rfl rfl) (ra_cons (rv 2) (ra_cons re_int (ra_cons (re_bin op_subM (re_gint rfl T.c_MOST_CELLS) re_int) ra_nil)))))) (rss_one (rs_raise X_BadPlace G_init b_init (hr.mono (by decide)) rfl (takes_of rfl rfl rfl rfl) rfl (ra_cons (rv 2) ra_nil))) (rss_nil))
      (rss_one (rs_ret (re_call (n := 4) F_value_weights (hr.mono (by decide)) rfl (takes_of rfl rfl rfl rfl) (ra_cons (rv 3) (ra_cons (rv 4) (ra_cons (rv 6) (ra_cons (rv 2) ra_nil))))))))))

theorem ok__law_refused {f__law_refused : Addr} {fd__law_refused : FuncData} {c__law_refused P__law_refused : Addr} (D__law_refused : DefAt K mg "_law_refused" s__law_refused ["ground"] f__law_refused fd__law_refused) (C__law_refused : CodeAt K "_law_refused" s__law_refused f__law_refused fd__law_refused c__law_refused) (L__law_refused : LamAt TZ base mg "_law_refused" c__law_refused P__law_refused) (T : Txt K mg) (F__law_is_11 : FnM ⟨P, w, K, mg, base, TZ⟩ "_law_is" 13 11 [true, false, false] M__law_is) (F_equation : FnM ⟨P, w, K, mg, base, TZ⟩ "equation" 10 0 [false, false, false] M_equation) :
    FnM ⟨P, w, K, mg, base, TZ⟩ "_law_refused" 14 0 [false] M__law_refused := by
  refine okMc D__law_refused (CodeV.at C__law_refused) sc__law_refused rfl rfl fun A outer s H E fs hr => ?_
  exact (rss_cons (rs_asg (rv 0) (rg_tup rfl (rgs_cons (rg_name (i := 1) sc__law_refused.nd rfl (Or.inr rfl)) (rgs_cons (rg_name (i := 2) sc__law_refused.nd rfl (Or.inl rfl)) (rgs_cons (rg_name (i := 3) sc__law_refused.nd rfl (Or.inr rfl)) rgs_nil)))))
      (rss_cons (rs_for (passes_of rfl) rfl (ri_seq (re_lst (ra_cons (re_neg re_int) (ra_cons (re_callB call_lenM rfl T.b_len PySem.boot_len (ra_cons (rv 3) ra_nil)) (ra_cons re_bl (ra_cons re_non (ra_cons re_str ra_nil))))))) (rg_name (i := 4) sc__law_refused.nd rfl (Or.inr rfl)) (rss_one (rs_if (rt_not (rt_tru (re_callF F__law_is_11 (hr.mono (by decide)) rfl (takes_of rfl rfl rfl rfl) (rf_lamA (x := "_law_refused") ["ground", "shelf"] ["ground", "shelf"] [] [0, 4] 10 0 (defScope s__law_refused) L__law_refused (fun q cl f c A outer s H E hr => re_call (n := 3) F_equation (hr.mono (by decide)) rfl (takes_of rfl rfl rfl rfl) (ra_cons (rv 0) (ra_cons (rv 1) (ra_cons (re_neg re_int) ra_nil)))) (ra_cons re_str (ra_cons (rv 4) ra_nil)) (hb := fun _ _ us _ _ _ hl => match us, hl with | [], _ => rfl))))) (rss_one (rs_ret re_bl)) (rss_nil))))
      (rss_cons (rs_for (passes_of rfl) rfl (ri_seq (re_lst (ra_cons (re_neg re_int) (ra_cons re_int (ra_cons (re_bin op_powM re_int re_int) (ra_cons re_bl (ra_cons re_non ra_nil))))))) (rg_name (i := 5) sc__law_refused.nd rfl (Or.inr rfl)) (rss_one (rs_if (rt_not (rt_tru (re_callF F__law_is_11 (hr.mono (by decide)) rfl (takes_of rfl rfl rfl rfl) (rf_lamA (x := "_law_refused") ["ground", "place"] ["ground", "place"] [] [0, 5] 10 0 (defScope s__law_refused) L__law_refused (fun q cl f c A outer s H E hr => re_call (n := 3) F_equation (hr.mono (by decide)) rfl (takes_of rfl rfl rfl rfl) (ra_cons (rv 0) (ra_cons re_int (ra_cons (rv 1) ra_nil)))) (ra_cons re_str (ra_cons (rv 5) ra_nil)) (hb := fun _ _ us _ _ _ hl => match us, hl with | [], _ => rfl))))) (rss_one (rs_ret re_bl)) (rss_nil))))
      (rss_one (rs_ret (re_callF F__law_is_11 (hr.mono (by decide)) rfl (takes_of rfl rfl rfl rfl) (rf_lamA (x := "_law_refused") ["p", "points"] ["p", "points"] [] [1, 3] 10 0 (defScope s__law_refused) L__law_refused (fun q cl f c A outer s H E hr => re_call (n := 3) F_equation (hr.mono (by decide)) rfl (takes_of rfl rfl rfl rfl) (ra_cons (re_tup (ra_cons (rv 0) (ra_cons re_int (ra_cons (rv 1) ra_nil)))) (ra_cons (re_neg re_int) (ra_cons (re_neg re_int) ra_nil)))) (ra_cons re_str (ra_cons re_int ra_nil)) (hb := fun _ _ us _ _ _ hl => match us, hl with | [], _ => rfl))))))))

theorem ok__law_written_out {f__law_written_out : Addr} {fd__law_written_out : FuncData} (D__law_written_out : DefAt K mg "_law_written_out" s__law_written_out ["p", "form", "point"] f__law_written_out fd__law_written_out) (T : Txt K mg) :
    FnM ⟨P, w, K, mg, base, TZ⟩ "_law_written_out" 1 0 [false, false, false] M__law_written_out := by
  refine okM D__law_written_out sc__law_written_out rfl rfl fun cdv A outer s H E fs hr => ?_
  exact (rss_cons (rs_if (rt_cmp (op_eqM hr.units) (rv 2) (rv 0) (nomark _)) (rss_one (rs_ret (re_callTy call_listM rfl T.b_list (by decide +kernel) (ra_cons (re_rev (rv 1)) ra_nil)))) (rss_nil))
      (rss_cons (rs_set (i := 3) sc__law_written_out.nd rfl (Or.inl rfl) (re_lst ra_nil))
      (rss_cons (rs_for (passes_of rfl) rfl (ri_seq (re_rev (rv 1))) (rg_name (i := 4) sc__law_written_out.nd rfl (Or.inl rfl)) (rss_cons (rs_set (i := 5) sc__law_written_out.nd rfl (Or.inr rfl) (re_bin op_addM (rv 3) (re_lst (ra_cons re_int ra_nil))))
      (rss_cons (rs_setLc (i := 3) (ownS := [("at", 6)]) rfl sc__law_written_out.nd rfl rfl (sw_true rfl rfl rfl (by decide +kernel)) (ri_range1 rfl T.b_range (ra_cons (re_callB call_lenM rfl T.b_len PySem.boot_len (ra_cons (rv 5) ra_nil)) ra_nil)) (blkOk_by (N := N__law_written_out) (sc := defScope s__law_written_out) (by decide +kernel)) (rgw_name (i := 6) (fun _ _ _ _ _ => pg_name (i := 6) sc__law_written_out.nd rfl (by first | exact Or.inl rfl | exact Or.inr rfl)) (by decide)) rts_nil (fun _ _ _ _ _ => re_bin op_modM (re_callTy call_toIntM rfl T.b_int (by decide +kernel) (ra_cons (re_bin op_addM (re_bin op_mulM (rv 2) (re_ix ix_M (rv 5) (rv 6) (fun _ _ => rfl))) (re_if (rt_cmp op_gtM (rv 6) re_int (nomark _)) (re_ix ix_M (rv 5) (re_bin op_subM (rv 6) re_int) (fun _ _ => rfl)) re_int)) ra_nil)) (rv 0)))
      (rss_one (rs_asg (re_bin op_modM (re_callTy call_toIntM rfl T.b_int (by decide +kernel) (ra_cons (re_bin op_addM (re_ix ix_M (rv 3) re_int (fun _ _ => rfl)) (rv 4)) ra_nil)) (rv 0)) (rg_sub (W := We) (rv 3) re_int))))))
      (rss_one (rs_ret (rv 3))))))

theorem ok__law_cell {f__law_cell : Addr} {fd__law_cell : FuncData} (D__law_cell : DefAt K mg "_law_cell" s__law_cell ["ground", "batch", "shelf", "j"] f__law_cell fd__law_cell) (T : Txt K mg) (F__law_written_out : FnM ⟨P, w, K, mg, base, TZ⟩ "_law_written_out" 1 0 [false, false, false] M__law_written_out) :
    FnM ⟨P, w, K, mg, base, TZ⟩ "_law_cell" 2 0 [false, false, false, false] M__law_cell := by
  refine okM D__law_cell sc__law_cell rfl rfl fun cdv A outer s H E fs hr => ?_
  exact (rss_cons (rs_set (i := 4) sc__law_cell.nd rfl (Or.inl rfl) (re_call (n := 3) F__law_written_out (hr.mono (by decide)) rfl (takes_of rfl rfl rfl rfl) (ra_cons (re_ix ix_M (rv 0) re_int (fun _ _ => rfl)) (ra_cons (rv 1) (ra_cons (re_ix ix_M (re_ix ix_M (rv 0) re_int (fun _ _ => rfl)) (rv 2) (fun _ _ => rfl)) ra_nil)))))
      (rss_one (rs_ret (re_if (rt_cmp op_ltM (rv 3) (re_callB call_lenM rfl T.b_len PySem.boot_len (ra_cons (rv 4) ra_nil)) (nomark _)) (re_ix ix_M (rv 4) (rv 3) (fun _ _ => rfl)) re_int))))

theorem ok__law_is_whole {f__law_is_whole : Addr} {fd__law_is_whole : FuncData} (D__law_is_whole : DefAt K mg "_law_is_whole" s__law_is_whole ["thing"] f__law_is_whole fd__law_is_whole) (T : Txt K mg) :
    FnM ⟨P, w, K, mg, base, TZ⟩ "_law_is_whole" 1 0 [false] M__law_is_whole := by
  refine okM D__law_is_whole sc__law_is_whole rfl rfl fun cdv A outer s H E fs hr => ?_
  exact (rss_one (rs_ret (re_and (re_isi (T := "int") rfl rfl T.b_isinstance rfl T.b_int (by decide +kernel) (rv 0)) (re_one (re_not (re_isi (T := "bool") rfl rfl T.b_isinstance rfl T.b_bool (by decide +kernel) (rv 0)))))))

theorem ok_law {f_law : Addr} {fd_law : FuncData} (D_law : DefAt K mg "law" s_law ["script"] f_law fd_law) (T : Txt K mg) (F__law_pool : FnM ⟨P, w, K, mg, base, TZ⟩ "_law_pool" 1 0 [false] M__law_pool) (F__law_ground : FnM ⟨P, w, K, mg, base, TZ⟩ "_law_ground" 3 0 [false, false, false] M__law_ground) (F__law_batch : FnM ⟨P, w, K, mg, base, TZ⟩ "_law_batch" 2 0 [false, false] M__law_batch) (F__law_refused : FnM ⟨P, w, K, mg, base, TZ⟩ "_law_refused" 14 0 [false] M__law_refused) (F__law_draw : FnM ⟨P, w, K, mg, base, TZ⟩ "_law_draw" 1 0 [false, false] M__law_draw) (F_equation : FnM ⟨P, w, K, mg, base, TZ⟩ "equation" 10 0 [false, false, false] M_equation) (F__law_cell : FnM ⟨P, w, K, mg, base, TZ⟩ "_law_cell" 2 0 [false, false, false, false] M__law_cell) (F__law_is_whole : FnM ⟨P, w, K, mg, base, TZ⟩ "_law_is_whole" 1 0 [false] M__law_is_whole) :
    FnM ⟨P, w, K, mg, base, TZ⟩ "law" 15 0 [false] M_law := by
  refine okM D_law sc_law rfl rfl fun cdv A outer s H E fs hr => ?_
  exact (rss_cons (rs_set (i := 1) sc_law.nd rfl (Or.inl rfl) (re_call (n := 1) F__law_pool (hr.mono (by decide)) rfl (takes_of rfl rfl rfl rfl) (ra_cons (rv 0) ra_nil)))
      (rss_cons (rs_set (i := 2) sc_law.nd rfl (Or.inl rfl) (re_call (n := 3) F__law_ground (hr.mono (by decide)) rfl (takes_of rfl rfl rfl rfl) (ra_cons (rv 1) (ra_cons re_int (ra_cons re_int ra_nil)))))
      (rss_cons (rs_asg (rv 2) (rg_tup rfl (rgs_cons (rg_name (i := 3) sc_law.nd rfl (Or.inr rfl)) (rgs_cons (rg_name (i := 4) sc_law.nd rfl (Or.inl rfl)) (rgs_cons (rg_name (i := 5) sc_law.nd rfl (Or.inl rfl)) rgs_nil)))))
      (rss_cons (rs_set (i := 6) sc_law.nd rfl (Or.inr rfl) (re_call (n := 2) F__law_batch (hr.mono (by decide)) rfl (takes_of rfl rfl rfl rfl) (ra_cons (rv 1) (ra_cons (rv 2) ra_nil))))
      (rss_cons (rs_for (passes_of rfl) rfl (ri_range1 rfl T.b_range (ra_cons (re_callB call_lenM rfl T.b_len PySem.boot_len (ra_cons (rv 5) ra_nil)) ra_nil)) (rg_name (i := 7) sc_law.nd rfl (Or.inl rfl)) (rss_cons (rs_set (i := 8) sc_law.nd rfl (Or.inl rfl) (re_call (n := 2) F__law_draw (hr.mono (by decide)) rfl (takes_of rfl rfl rfl rfl) (ra_cons (rv 1) (ra_cons (rv 4) ra_nil))))
      (rss_cons (rs_set (i := 9) sc_law.nd rfl (Or.inr rfl) (re_call (n := 3) F_equation (hr.mono (by decide)) rfl (takes_of rfl rfl rfl rfl) (ra_cons (rv 2) (ra_cons (rv 7) (ra_cons (rv 8) ra_nil)))))
      (rss_cons (rs_if (RW.rt (rw_or (rt_not (rt_tru (re_isi (T := "tuple") rfl rfl T.b_isinstance rfl T.b_tuple (by decide +kernel) (rv 9)))) (rw_or1 (rt_cmp (op_neM hr.units) (re_callB call_lenM rfl T.b_len PySem.boot_len (ra_cons (rv 9) ra_nil)) (rv 4) (nomark _))))) (rss_one (rs_ret re_bl)) (rss_nil))
      (rss_cons (rs_if (rt_cmp (op_neM hr.units) (re_lc (ownS := [("number", 12)]) rfl sc_law.nd (ri_seq (rv 9)) (blkOk_by (N := N_law) (sc := defScope s_law) (by decide +kernel)) (rgw_name (i := 12) (fun _ _ _ _ _ => pg_name (i := 12) sc_law.nd rfl (by first | exact Or.inl rfl | exact Or.inr rfl)) (by decide)) (rts_one fun _ _ _ _ _ => RW.rt (rw_or (rt_not (rt_tru (re_call (n := 1) F__law_is_whole (hr.mono (by decide)) rfl takes0 (ra_cons (rv 12) ra_nil)))) (rw_or1 (rt_not (rt_chain op_leM op_ltM re_int (rv 12) (rv 3)))))) (fun _ _ _ _ _ => rv 12)) (re_lst ra_nil) (nomark _)) (rss_one (rs_ret re_bl)) (rss_nil))
      (rss_cons (rs_if (rt_cmp (op_neM hr.units) (re_bin op_modM (re_callTy call_toIntM rfl T.b_int (by decide +kernel) (ra_cons (re_callB (call_sumM rfl) rfl T.b_sum (by decide +kernel) (ra_cons (re_lc (ownS := [("t", 10)]) rfl sc_law.nd (ri_range1 rfl T.b_range (ra_cons (rv 4) ra_nil)) (blkOk_by (N := N_law) (sc := defScope s_law) (by decide +kernel)) (rgw_name (i := 10) (fun _ _ _ _ _ => pg_name (i := 10) sc_law.nd rfl (by first | exact Or.inl rfl | exact Or.inr rfl)) (by decide)) rts_nil (fun _ _ _ _ _ => re_bin op_mulM (re_ix ix_M (rv 9) (rv 10) (fun _ _ => rfl)) (re_ix ix_M (rv 6) (rv 10) (fun _ _ => rfl)))) ra_nil)) ra_nil)) (rv 3)) (re_call (n := 4) F__law_cell (hr.mono (by decide)) rfl (takes_of rfl rfl rfl rfl) (ra_cons (rv 2) (ra_cons (rv 6) (ra_cons (rv 7) (ra_cons (rv 8) ra_nil))))) (nomark _)) (rss_one (rs_ret re_bl)) (rss_nil))
      (rss_cons (rs_set (i := 10) sc_law.nd rfl (Or.inr rfl) (re_call (n := 2) F__law_draw (hr.mono (by decide)) rfl (takes_of rfl rfl rfl rfl) (ra_cons (rv 1) (ra_cons (rv 4) ra_nil))))
      (rss_cons (rs_set (i := 11) sc_law.nd rfl (Or.inl rfl) (re_callTy call_tupleM rfl T.b_tuple (by decide +kernel) (ra_cons (re_lc (ownS := [("at", 13)]) rfl sc_law.nd (ri_range1 rfl T.b_range (ra_cons (rv 4) ra_nil)) (blkOk_by (N := N_law) (sc := defScope s_law) (by decide +kernel)) (rgw_name (i := 13) (fun _ _ _ _ _ => pg_name (i := 13) sc_law.nd rfl (by first | exact Or.inl rfl | exact Or.inr rfl)) (by decide)) rts_nil (fun _ _ _ _ _ => re_callTy call_toIntM rfl T.b_int (by decide +kernel) (ra_cons (re_cmp (op_eqM hr.units) (rv 13) (rv 10) (nomark _)) ra_nil))) ra_nil)))
      (rss_cons (rs_if (rt_cmp (op_neM hr.units) (re_ix ix_M (rv 9) (rv 10) (fun _ _ => rfl)) (re_call (n := 4) F__law_cell (hr.mono (by decide)) rfl (takes_of rfl rfl rfl rfl) (ra_cons (rv 2) (ra_cons (rv 11) (ra_cons (rv 7) (ra_cons (rv 8) ra_nil))))) (nomark _)) (rss_one (rs_ret re_bl)) (rss_nil))
      (rss_one (rs_if (RW.rt (rw_or (rt_cmp (op_neM hr.units) (re_call (n := 3) F_equation (hr.mono (by decide)) rfl (takes_of rfl rfl rfl rfl) (ra_cons (rv 2) (ra_cons (rv 7) (ra_cons (rv 4) ra_nil)))) (re_bin op_mulM (re_tup (ra_cons re_int ra_nil)) (rv 4)) (nomark _)) (rw_or1 (rt_cmp (op_neM hr.units) (re_call (n := 3) F_equation (hr.mono (by decide)) rfl (takes_of rfl rfl rfl rfl) (ra_cons (rv 2) (ra_cons (rv 7) (ra_cons re_int ra_nil)))) (re_bin op_mulM (re_tup (ra_cons re_int ra_nil)) (rv 4)) (nomark _))))) (rss_one (rs_ret re_bl)) (rss_nil))))))))))))
      (rss_one (rs_ret (re_call (n := 1) F__law_refused (hr.mono (by decide)) rfl (takes_of rfl rfl rfl rfl) (ra_cons (rv 2) ra_nil)))))))))

theorem ok_lawE {f_law : Addr} {fd_law : FuncData} (D_law : DefAt K mg "law" s_law ["script"] f_law fd_law) (T : Txt K mg) (F__law_pool : FnM ⟨P, w, K, mg, base, TZ⟩ "_law_pool" 1 0 [false] M__law_pool) (F__law_ground : FnM ⟨P, w, K, mg, base, TZ⟩ "_law_ground" 3 0 [false, false, false] M__law_ground) (F__law_batch : FnM ⟨P, w, K, mg, base, TZ⟩ "_law_batch" 2 0 [false, false] M__law_batch) (F__law_refused : FnM ⟨P, w, K, mg, base, TZ⟩ "_law_refused" 14 0 [false] M__law_refused) (F__law_draw : FnM ⟨P, w, K, mg, base, TZ⟩ "_law_draw" 1 0 [false, false] M__law_draw) (F_equation : FnM ⟨P, w, K, mg, base, TZ⟩ "equation" 10 0 [false, false, false] M_equation) (F__law_cell : FnM ⟨P, w, K, mg, base, TZ⟩ "_law_cell" 2 0 [false, false, false, false] M__law_cell) (F__law_is_whole : FnM ⟨P, w, K, mg, base, TZ⟩ "_law_is_whole" 1 0 [false] M__law_is_whole) (told : Told M_law) :
    FnOk P w K mg base (L2.CX P w) 15 f_law fd_law ["script"] (spLawT K TZ) := by
  obtain ⟨cdv, C⟩ := CodeV.of D_law
  refine okLaw (m := fun _ => m_law_b1) (n := 13) C sc_law rfl (fun A outer s H E hr => ?_) told
  exact (rss_cons (rs_set (i := 1) sc_law.nd rfl (Or.inl rfl) (re_call (n := 1) F__law_pool (hr.mono (by decide)) rfl (takes_of rfl rfl rfl rfl) (ra_cons (rv 0) ra_nil)))
      (rss_cons (rs_set (i := 2) sc_law.nd rfl (Or.inl rfl) (re_call (n := 3) F__law_ground (hr.mono (by decide)) rfl (takes_of rfl rfl rfl rfl) (ra_cons (rv 1) (ra_cons re_int (ra_cons re_int ra_nil)))))
      (rss_cons (rs_asg (rv 2) (rg_tup rfl (rgs_cons (rg_name (i := 3) sc_law.nd rfl (Or.inr rfl)) (rgs_cons (rg_name (i := 4) sc_law.nd rfl (Or.inl rfl)) (rgs_cons (rg_name (i := 5) sc_law.nd rfl (Or.inl rfl)) rgs_nil)))))
      (rss_cons (rs_set (i := 6) sc_law.nd rfl (Or.inr rfl) (re_call (n := 2) F__law_batch (hr.mono (by decide)) rfl (takes_of rfl rfl rfl rfl) (ra_cons (rv 1) (ra_cons (rv 2) ra_nil))))
      (rss_cons (rs_for (passes_of rfl) rfl (ri_range1 rfl T.b_range (ra_cons (re_callB call_lenM rfl T.b_len PySem.boot_len (ra_cons (rv 5) ra_nil)) ra_nil)) (rg_name (i := 7) sc_law.nd rfl (Or.inl rfl)) (rss_cons (rs_set (i := 8) sc_law.nd rfl (Or.inl rfl) (re_call (n := 2) F__law_draw (hr.mono (by decide)) rfl (takes_of rfl rfl rfl rfl) (ra_cons (rv 1) (ra_cons (rv 4) ra_nil))))
      (rss_cons (rs_set (i := 9) sc_law.nd rfl (Or.inr rfl) (re_call (n := 3) F_equation (hr.mono (by decide)) rfl (takes_of rfl rfl rfl rfl) (ra_cons (rv 2) (ra_cons (rv 7) (ra_cons (rv 8) ra_nil)))))
      (rss_cons (rs_if (RW.rt (rw_or (rt_not (rt_tru (re_isi (T := "tuple") rfl rfl T.b_isinstance rfl T.b_tuple (by decide +kernel) (rv 9)))) (rw_or1 (rt_cmp (op_neM hr.units) (re_callB call_lenM rfl T.b_len PySem.boot_len (ra_cons (rv 9) ra_nil)) (rv 4) (nomark _))))) (rss_one (rs_ret re_bl)) (rss_nil))
      (rss_cons (rs_if (rt_cmp (op_neM hr.units) (re_lc (ownS := [("number", 12)]) rfl sc_law.nd (ri_seq (rv 9)) (blkOk_by (N := N_law) (sc := defScope s_law) (by decide +kernel)) (rgw_name (i := 12) (fun _ _ _ _ _ => pg_name (i := 12) sc_law.nd rfl (by first | exact Or.inl rfl | exact Or.inr rfl)) (by decide)) (rts_one fun _ _ _ _ _ => RW.rt (rw_or (rt_not (rt_tru (re_call (n := 1) F__law_is_whole (hr.mono (by decide)) rfl takes0 (ra_cons (rv 12) ra_nil)))) (rw_or1 (rt_not (rt_chain op_leM op_ltM re_int (rv 12) (rv 3)))))) (fun _ _ _ _ _ => rv 12)) (re_lst ra_nil) (nomark _)) (rss_one (rs_ret re_bl)) (rss_nil))
      (rss_cons (rs_if (rt_cmp (op_neM hr.units) (re_bin op_modM (re_callTy call_toIntM rfl T.b_int (by decide +kernel) (ra_cons (re_callB (call_sumM rfl) rfl T.b_sum (by decide +kernel) (ra_cons (re_lc (ownS := [("t", 10)]) rfl sc_law.nd (ri_range1 rfl T.b_range (ra_cons (rv 4) ra_nil)) (blkOk_by (N := N_law) (sc := defScope s_law) (by decide +kernel)) (rgw_name (i := 10) (fun _ _ _ _ _ => pg_name (i := 10) sc_law.nd rfl (by first | exact Or.inl rfl | exact Or.inr rfl)) (by decide)) rts_nil (fun _ _ _ _ _ => re_bin op_mulM (re_ix ix_M (rv 9) (rv 10) (fun _ _ => rfl)) (re_ix ix_M (rv 6) (rv 10) (fun _ _ => rfl)))) ra_nil)) ra_nil)) (rv 3)) (re_call (n := 4) F__law_cell (hr.mono (by decide)) rfl (takes_of rfl rfl rfl rfl) (ra_cons (rv 2) (ra_cons (rv 6) (ra_cons (rv 7) (ra_cons (rv 8) ra_nil))))) (nomark _)) (rss_one (rs_ret re_bl)) (rss_nil))
      (rss_cons (rs_set (i := 10) sc_law.nd rfl (Or.inr rfl) (re_call (n := 2) F__law_draw (hr.mono (by decide)) rfl (takes_of rfl rfl rfl rfl) (ra_cons (rv 1) (ra_cons (rv 4) ra_nil))))
      (rss_cons (rs_set (i := 11) sc_law.nd rfl (Or.inl rfl) (re_callTy call_tupleM rfl T.b_tuple (by decide +kernel) (ra_cons (re_lc (ownS := [("at", 13)]) rfl sc_law.nd (ri_range1 rfl T.b_range (ra_cons (rv 4) ra_nil)) (blkOk_by (N := N_law) (sc := defScope s_law) (by decide +kernel)) (rgw_name (i := 13) (fun _ _ _ _ _ => pg_name (i := 13) sc_law.nd rfl (by first | exact Or.inl rfl | exact Or.inr rfl)) (by decide)) rts_nil (fun _ _ _ _ _ => re_callTy call_toIntM rfl T.b_int (by decide +kernel) (ra_cons (re_cmp (op_eqM hr.units) (rv 13) (rv 10) (nomark _)) ra_nil))) ra_nil)))
      (rss_cons (rs_if (rt_cmp (op_neM hr.units) (re_ix ix_M (rv 9) (rv 10) (fun _ _ => rfl)) (re_call (n := 4) F__law_cell (hr.mono (by decide)) rfl (takes_of rfl rfl rfl rfl) (ra_cons (rv 2) (ra_cons (rv 11) (ra_cons (rv 7) (ra_cons (rv 8) ra_nil))))) (nomark _)) (rss_one (rs_ret re_bl)) (rss_nil))
      (rss_one (rs_if (RW.rt (rw_or (rt_cmp (op_neM hr.units) (re_call (n := 3) F_equation (hr.mono (by decide)) rfl (takes_of rfl rfl rfl rfl) (ra_cons (rv 2) (ra_cons (rv 7) (ra_cons (rv 4) ra_nil)))) (re_bin op_mulM (re_tup (ra_cons re_int ra_nil)) (rv 4)) (nomark _)) (rw_or1 (rt_cmp (op_neM hr.units) (re_call (n := 3) F_equation (hr.mono (by decide)) rfl (takes_of rfl rfl rfl rfl) (ra_cons (rv 2) (ra_cons (rv 7) (ra_cons re_int ra_nil)))) (re_bin op_mulM (re_tup (ra_cons re_int ra_nil)) (rv 4)) (nomark _))))) (rss_one (rs_ret re_bl)) (rss_nil))))))))))))
      (rss_one (rs_ret (re_call (n := 1) F__law_refused (hr.mono (by decide)) rfl (takes_of rfl rfl rfl rfl) (ra_cons (rv 2) ra_nil)))))))))

end

theorem cx_no {P : Program} {w : World} {H : Hp} {s : Shared} {e : Value} {s2 : Shared} (z : L2.CX P w [] H s (fun _ _ _ => False) e s2) : False := by
  obtain ⟨_, _, _, _, _, _, _, _, _, _, _, _, h⟩ := z
  exact h
theorem all_mk {l : PySem.W.OpenLaw} {w : World} {K : PySem.W.Frag} {h : Heap} {mg : Str → Option Value} {ts : List Addr} {fa f0 f1 f2 f3 f4 f5 f6 f7 f8 f9 f10 f11 f12 f13 f14 f15 f16 f17 f18 f19 f20 f21 f22 f23 f24 f25 f26 f27 f28 c_numbers_fit c__law_refused CR fI C_BadGround C_BadBatch C_BadShelf C_BadPlace : Addr} (X : K.In h) (G : h.Ns mainGlobals mg) (hfa : mg "law" = some (.ref fa)) (hT : ∀ P ∈ ts, h.get? P = some (PySem.W.tabObj #[]))
    {od0 an0 : Option Addr} {sl0 : Array (Option Value)} {oc0 kV0 dc0 pm0 ct0 cd0 : Value}
    {od1 an1 : Option Addr} {sl1 : Array (Option Value)} {oc1 kV1 dc1 pm1 ct1 cd1 : Value}
    {od2 an2 : Option Addr} {sl2 : Array (Option Value)} {oc2 kV2 dc2 pm2 ct2 cd2 : Value}
    {od3 an3 : Option Addr} {sl3 : Array (Option Value)} {oc3 kV3 dc3 pm3 ct3 cd3 : Value}
    {od4 an4 : Option Addr} {sl4 : Array (Option Value)} {oc4 kV4 dc4 pm4 ct4 cd4 : Value}
    {od5 an5 : Option Addr} {sl5 : Array (Option Value)} {oc5 kV5 dc5 pm5 ct5 cd5 : Value}
    {od6 an6 : Option Addr} {sl6 : Array (Option Value)} {oc6 kV6 dc6 pm6 ct6 cd6 : Value}
    {od7 an7 : Option Addr} {sl7 : Array (Option Value)} {oc7 kV7 dc7 pm7 ct7 cd7 : Value}
    {od8 an8 : Option Addr} {sl8 : Array (Option Value)} {oc8 kV8 dc8 pm8 ct8 cd8 : Value}
    {od9 an9 : Option Addr} {sl9 : Array (Option Value)} {oc9 kV9 dc9 pm9 ct9 cd9 : Value}
    {od10 an10 : Option Addr} {sl10 : Array (Option Value)} {oc10 kV10 dc10 pm10 ct10 cd10 : Value}
    {od11 an11 : Option Addr} {sl11 : Array (Option Value)} {oc11 kV11 dc11 pm11 ct11 cd11 : Value}
    {od12 an12 : Option Addr} {sl12 : Array (Option Value)} {oc12 kV12 dc12 pm12 ct12 cd12 : Value}
    {od13 an13 : Option Addr} {sl13 : Array (Option Value)} {oc13 kV13 dc13 pm13 ct13 : Value}
    {od14 an14 : Option Addr} {sl14 : Array (Option Value)} {oc14 kV14 dc14 pm14 ct14 cd14 : Value}
    {od15 an15 : Option Addr} {sl15 : Array (Option Value)} {oc15 kV15 dc15 pm15 ct15 cd15 : Value}
    {od16 an16 : Option Addr} {sl16 : Array (Option Value)} {oc16 kV16 dc16 pm16 ct16 cd16 : Value}
    {od17 an17 : Option Addr} {sl17 : Array (Option Value)} {oc17 kV17 dc17 pm17 ct17 cd17 : Value}
    {od18 an18 : Option Addr} {sl18 : Array (Option Value)} {oc18 kV18 dc18 pm18 ct18 cd18 : Value}
    {od19 an19 : Option Addr} {sl19 : Array (Option Value)} {oc19 kV19 dc19 pm19 ct19 cd19 : Value}
    {od20 an20 : Option Addr} {sl20 : Array (Option Value)} {oc20 kV20 dc20 pm20 ct20 cd20 : Value}
    {od21 an21 : Option Addr} {sl21 : Array (Option Value)} {oc21 kV21 dc21 pm21 ct21 cd21 : Value}
    {od22 an22 : Option Addr} {sl22 : Array (Option Value)} {oc22 kV22 dc22 pm22 ct22 cd22 : Value}
    {od23 an23 : Option Addr} {sl23 : Array (Option Value)} {oc23 kV23 dc23 pm23 ct23 cd23 : Value}
    {od24 an24 : Option Addr} {sl24 : Array (Option Value)} {oc24 kV24 dc24 pm24 ct24 : Value}
    {od25 an25 : Option Addr} {sl25 : Array (Option Value)} {oc25 kV25 dc25 pm25 ct25 cd25 : Value}
    {od26 an26 : Option Addr} {sl26 : Array (Option Value)} {oc26 kV26 dc26 pm26 ct26 cd26 : Value}
    {od27 an27 : Option Addr} {sl27 : Array (Option Value)} {oc27 kV27 dc27 pm27 ct27 cd27 : Value}
    {od28 an28 : Option Addr} {sl28 : Array (Option Value)} {oc28 kV28 dc28 pm28 ct28 cd28 : Value}
    {tk_MOST_PRIME : Tok}
    {tk_MOST_NUMBERS : Tok}
    {tk_MOST_SHELVES : Tok}
    {tk_MOST_CELLS : Tok}
    {odI anI : Option Addr} {slI : Array (Option Value)} {ocI kVI dcI pmI cdI ctI : Value}
    {nm_BadGround q_BadGround : Str} {N_BadGround : Addr} {bs_BadGround sb_BadGround : List Value} {sn_BadGround : List Str} {ab_BadGround : Bool} {col_BadGround : Option Bool} {dd_BadGround : Option Addr} {m0_BadGround m1_BadGround m2_BadGround m3_BadGround m5_BadGround : Option Value}
    {nm_BadBatch q_BadBatch : Str} {N_BadBatch : Addr} {bs_BadBatch sb_BadBatch : List Value} {sn_BadBatch : List Str} {ab_BadBatch : Bool} {col_BadBatch : Option Bool} {dd_BadBatch : Option Addr} {m0_BadBatch m1_BadBatch m2_BadBatch m3_BadBatch m5_BadBatch : Option Value}
    {nm_BadShelf q_BadShelf : Str} {N_BadShelf : Addr} {bs_BadShelf sb_BadShelf : List Value} {sn_BadShelf : List Str} {ab_BadShelf : Bool} {col_BadShelf : Option Bool} {dd_BadShelf : Option Addr} {m0_BadShelf m1_BadShelf m2_BadShelf m3_BadShelf m5_BadShelf : Option Value}
    {nm_BadPlace q_BadPlace : Str} {N_BadPlace : Addr} {bs_BadPlace sb_BadPlace : List Value} {sn_BadPlace : List Str} {ab_BadPlace : Bool} {col_BadPlace : Option Bool} {dd_BadPlace : Option Addr} {m0_BadPlace m1_BadPlace m2_BadPlace m3_BadPlace m5_BadPlace : Option Value}
    (a0 : PySem.W.nsIn K mainGlobals "_law_pool" = some (some (.ref f0))) (l0 : K.lookup f0 = some ⟨oc0, od0, .func (PySem.W.fnOf "_law_pool" "_law_pool" (defArgs s__law_pool) (defBody s__law_pool) (defScope s__law_pool) .none kV0 dc0 pm0 an0 cd0 ct0), sl0⟩) (c0 : PySem.W.codeIn K cd0 "_law_pool" = true) (k0 : PySem.W.keepIn K (.ref f0) = true)
    (a1 : PySem.W.nsIn K mainGlobals "_law_draw" = some (some (.ref f1))) (l1 : K.lookup f1 = some ⟨oc1, od1, .func (PySem.W.fnOf "_law_draw" "_law_draw" (defArgs s__law_draw) (defBody s__law_draw) (defScope s__law_draw) .none kV1 dc1 pm1 an1 cd1 ct1), sl1⟩) (c1 : PySem.W.codeIn K cd1 "_law_draw" = true) (k1 : PySem.W.keepIn K (.ref f1) = true)
    (a2 : PySem.W.nsIn K mainGlobals "_law_pick" = some (some (.ref f2))) (l2 : K.lookup f2 = some ⟨oc2, od2, .func (PySem.W.fnOf "_law_pick" "_law_pick" (defArgs s__law_pick) (defBody s__law_pick) (defScope s__law_pick) .none kV2 dc2 pm2 an2 cd2 ct2), sl2⟩) (c2 : PySem.W.codeIn K cd2 "_law_pick" = true) (k2 : PySem.W.keepIn K (.ref f2) = true)
    (a3 : PySem.W.nsIn K mainGlobals "_law_turned" = some (some (.ref f3))) (l3 : K.lookup f3 = some ⟨oc3, od3, .func (PySem.W.fnOf "_law_turned" "_law_turned" (defArgs s__law_turned) (defBody s__law_turned) (defScope s__law_turned) .none kV3 dc3 pm3 an3 cd3 ct3), sl3⟩) (c3 : PySem.W.codeIn K cd3 "_law_turned" = true) (k3 : PySem.W.keepIn K (.ref f3) = true)
    (a4 : PySem.W.nsIn K mainGlobals "_law_ground" = some (some (.ref f4))) (l4 : K.lookup f4 = some ⟨oc4, od4, .func (PySem.W.fnOf "_law_ground" "_law_ground" (defArgs s__law_ground) (defBody s__law_ground) (defScope s__law_ground) .none kV4 dc4 pm4 an4 cd4 ct4), sl4⟩) (c4 : PySem.W.codeIn K cd4 "_law_ground" = true) (k4 : PySem.W.keepIn K (.ref f4) = true)
    (a5 : PySem.W.nsIn K mainGlobals "_law_batch" = some (some (.ref f5))) (l5 : K.lookup f5 = some ⟨oc5, od5, .func (PySem.W.fnOf "_law_batch" "_law_batch" (defArgs s__law_batch) (defBody s__law_batch) (defScope s__law_batch) .none kV5 dc5 pm5 an5 cd5 ct5), sl5⟩) (c5 : PySem.W.codeIn K cd5 "_law_batch" = true) (k5 : PySem.W.keepIn K (.ref f5) = true)
    (a6 : PySem.W.nsIn K mainGlobals "_law_heard" = some (some (.ref f6))) (l6 : K.lookup f6 = some ⟨oc6, od6, .func (PySem.W.fnOf "_law_heard" "_law_heard" (defArgs s__law_heard) (defBody s__law_heard) (defScope s__law_heard) .none kV6 dc6 pm6 an6 cd6 ct6), sl6⟩) (c6 : PySem.W.codeIn K cd6 "_law_heard" = true) (k6 : PySem.W.keepIn K (.ref f6) = true)
    (a7 : PySem.W.nsIn K mainGlobals "_law_is" = some (some (.ref f7))) (l7 : K.lookup f7 = some ⟨oc7, od7, .func (PySem.W.fnOf "_law_is" "_law_is" (defArgs s__law_is) (defBody s__law_is) (defScope s__law_is) .none kV7 dc7 pm7 an7 cd7 ct7), sl7⟩) (c7 : PySem.W.codeIn K cd7 "_law_is" = true) (k7 : PySem.W.keepIn K (.ref f7) = true)
    (a8 : PySem.W.nsIn K mainGlobals "is_number" = some (some (.ref f8))) (l8 : K.lookup f8 = some ⟨oc8, od8, .func (PySem.W.fnOf "is_number" "is_number" (defArgs s_is_number) (defBody s_is_number) (defScope s_is_number) .none kV8 dc8 pm8 an8 cd8 ct8), sl8⟩) (c8 : PySem.W.codeIn K cd8 "is_number" = true) (k8 : PySem.W.keepIn K (.ref f8) = true)
    (a9 : PySem.W.nsIn K mainGlobals "number_between" = some (some (.ref f9))) (l9 : K.lookup f9 = some ⟨oc9, od9, .func (PySem.W.fnOf "number_between" "number_between" (defArgs s_number_between) (defBody s_number_between) (defScope s_number_between) .none kV9 dc9 pm9 an9 cd9 ct9), sl9⟩) (c9 : PySem.W.codeIn K cd9 "number_between" = true) (k9 : PySem.W.keepIn K (.ref f9) = true)
    (a10 : PySem.W.nsIn K mainGlobals "is_prime" = some (some (.ref f10))) (l10 : K.lookup f10 = some ⟨oc10, od10, .func (PySem.W.fnOf "is_prime" "is_prime" (defArgs s_is_prime) (defBody s_is_prime) (defScope s_is_prime) .none kV10 dc10 pm10 an10 cd10 ct10), sl10⟩) (c10 : PySem.W.codeIn K cd10 "is_prime" = true) (k10 : PySem.W.keepIn K (.ref f10) = true)
    (a11 : PySem.W.nsIn K mainGlobals "tuple_fault" = some (some (.ref f11))) (l11 : K.lookup f11 = some ⟨oc11, od11, .func (PySem.W.fnOf "tuple_fault" "tuple_fault" (defArgs s_tuple_fault) (defBody s_tuple_fault) (defScope s_tuple_fault) .none kV11 dc11 pm11 an11 cd11 ct11), sl11⟩) (c11 : PySem.W.codeIn K cd11 "tuple_fault" = true) (k11 : PySem.W.keepIn K (.ref f11) = true)
    (a12 : PySem.W.nsIn K mainGlobals "tuple_fits" = some (some (.ref f12))) (l12 : K.lookup f12 = some ⟨oc12, od12, .func (PySem.W.fnOf "tuple_fits" "tuple_fits" (defArgs s_tuple_fits) (defBody s_tuple_fits) (defScope s_tuple_fits) .none kV12 dc12 pm12 an12 cd12 ct12), sl12⟩) (c12 : PySem.W.codeIn K cd12 "tuple_fits" = true) (k12 : PySem.W.keepIn K (.ref f12) = true)
    (a13 : PySem.W.nsIn K mainGlobals "numbers_fit" = some (some (.ref f13))) (l13 : K.lookup f13 = some ⟨oc13, od13, .func (PySem.W.fnOf "numbers_fit" "numbers_fit" (defArgs s_numbers_fit) (defBody s_numbers_fit) (defScope s_numbers_fit) .none kV13 dc13 pm13 an13 (.ref c_numbers_fit) ct13), sl13⟩) (c13 : PySem.W.codeIn K (.ref c_numbers_fit) "numbers_fit" = true) (k13 : PySem.W.keepIn K (.ref f13) = true)
    (a14 : PySem.W.nsIn K mainGlobals "points_fit" = some (some (.ref f14))) (l14 : K.lookup f14 = some ⟨oc14, od14, .func (PySem.W.fnOf "points_fit" "points_fit" (defArgs s_points_fit) (defBody s_points_fit) (defScope s_points_fit) .none kV14 dc14 pm14 an14 cd14 ct14), sl14⟩) (c14 : PySem.W.codeIn K cd14 "points_fit" = true) (k14 : PySem.W.keepIn K (.ref f14) = true)
    (a15 : PySem.W.nsIn K mainGlobals "ground_fault" = some (some (.ref f15))) (l15 : K.lookup f15 = some ⟨oc15, od15, .func (PySem.W.fnOf "ground_fault" "ground_fault" (defArgs s_ground_fault) (defBody s_ground_fault) (defScope s_ground_fault) .none kV15 dc15 pm15 an15 cd15 ct15), sl15⟩) (c15 : PySem.W.codeIn K cd15 "ground_fault" = true) (k15 : PySem.W.keepIn K (.ref f15) = true)
    (a16 : PySem.W.nsIn K mainGlobals "made_ground" = some (some (.ref f16))) (l16 : K.lookup f16 = some ⟨oc16, od16, .func (PySem.W.fnOf "made_ground" "made_ground" (defArgs s_made_ground) (defBody s_made_ground) (defScope s_made_ground) .none kV16 dc16 pm16 an16 cd16 ct16), sl16⟩) (c16 : PySem.W.codeIn K cd16 "made_ground" = true) (k16 : PySem.W.keepIn K (.ref f16) = true)
    (a17 : PySem.W.nsIn K mainGlobals "shelf_fits" = some (some (.ref f17))) (l17 : K.lookup f17 = some ⟨oc17, od17, .func (PySem.W.fnOf "shelf_fits" "shelf_fits" (defArgs s_shelf_fits) (defBody s_shelf_fits) (defScope s_shelf_fits) .none kV17 dc17 pm17 an17 cd17 ct17), sl17⟩) (c17 : PySem.W.codeIn K cd17 "shelf_fits" = true) (k17 : PySem.W.keepIn K (.ref f17) = true)
    (a18 : PySem.W.nsIn K mainGlobals "made_shelf" = some (some (.ref f18))) (l18 : K.lookup f18 = some ⟨oc18, od18, .func (PySem.W.fnOf "made_shelf" "made_shelf" (defArgs s_made_shelf) (defBody s_made_shelf) (defScope s_made_shelf) .none kV18 dc18 pm18 an18 cd18 ct18), sl18⟩) (c18 : PySem.W.codeIn K cd18 "made_shelf" = true) (k18 : PySem.W.keepIn K (.ref f18) = true)
    (a19 : PySem.W.nsIn K mainGlobals "point_of" = some (some (.ref f19))) (l19 : K.lookup f19 = some ⟨oc19, od19, .func (PySem.W.fnOf "point_of" "point_of" (defArgs s_point_of) (defBody s_point_of) (defScope s_point_of) .none kV19 dc19 pm19 an19 cd19 ct19), sl19⟩) (c19 : PySem.W.codeIn K cd19 "point_of" = true) (k19 : PySem.W.keepIn K (.ref f19) = true)
    (a20 : PySem.W.nsIn K mainGlobals "powers" = some (some (.ref f20))) (l20 : K.lookup f20 = some ⟨oc20, od20, .func (PySem.W.fnOf "powers" "powers" (defArgs s_powers) (defBody s_powers) (defScope s_powers) .none kV20 dc20 pm20 an20 cd20 ct20), sl20⟩) (c20 : PySem.W.codeIn K cd20 "powers" = true) (k20 : PySem.W.keepIn K (.ref f20) = true)
    (a21 : PySem.W.nsIn K mainGlobals "later_weights" = some (some (.ref f21))) (l21 : K.lookup f21 = some ⟨oc21, od21, .func (PySem.W.fnOf "later_weights" "later_weights" (defArgs s_later_weights) (defBody s_later_weights) (defScope s_later_weights) .none kV21 dc21 pm21 an21 cd21 ct21), sl21⟩) (c21 : PySem.W.codeIn K cd21 "later_weights" = true) (k21 : PySem.W.keepIn K (.ref f21) = true)
    (a22 : PySem.W.nsIn K mainGlobals "value_weights" = some (some (.ref f22))) (l22 : K.lookup f22 = some ⟨oc22, od22, .func (PySem.W.fnOf "value_weights" "value_weights" (defArgs s_value_weights) (defBody s_value_weights) (defScope s_value_weights) .none kV22 dc22 pm22 an22 cd22 ct22), sl22⟩) (c22 : PySem.W.codeIn K cd22 "value_weights" = true) (k22 : PySem.W.keepIn K (.ref f22) = true)
    (a23 : PySem.W.nsIn K mainGlobals "equation" = some (some (.ref f23))) (l23 : K.lookup f23 = some ⟨oc23, od23, .func (PySem.W.fnOf "equation" "equation" (defArgs s_equation) (defBody s_equation) (defScope s_equation) .none kV23 dc23 pm23 an23 cd23 ct23), sl23⟩) (c23 : PySem.W.codeIn K cd23 "equation" = true) (k23 : PySem.W.keepIn K (.ref f23) = true)
    (a24 : PySem.W.nsIn K mainGlobals "_law_refused" = some (some (.ref f24))) (l24 : K.lookup f24 = some ⟨oc24, od24, .func (PySem.W.fnOf "_law_refused" "_law_refused" (defArgs s__law_refused) (defBody s__law_refused) (defScope s__law_refused) .none kV24 dc24 pm24 an24 (.ref c__law_refused) ct24), sl24⟩) (c24 : PySem.W.codeIn K (.ref c__law_refused) "_law_refused" = true) (k24 : PySem.W.keepIn K (.ref f24) = true)
    (a25 : PySem.W.nsIn K mainGlobals "_law_written_out" = some (some (.ref f25))) (l25 : K.lookup f25 = some ⟨oc25, od25, .func (PySem.W.fnOf "_law_written_out" "_law_written_out" (defArgs s__law_written_out) (defBody s__law_written_out) (defScope s__law_written_out) .none kV25 dc25 pm25 an25 cd25 ct25), sl25⟩) (c25 : PySem.W.codeIn K cd25 "_law_written_out" = true) (k25 : PySem.W.keepIn K (.ref f25) = true)
    (a26 : PySem.W.nsIn K mainGlobals "_law_cell" = some (some (.ref f26))) (l26 : K.lookup f26 = some ⟨oc26, od26, .func (PySem.W.fnOf "_law_cell" "_law_cell" (defArgs s__law_cell) (defBody s__law_cell) (defScope s__law_cell) .none kV26 dc26 pm26 an26 cd26 ct26), sl26⟩) (c26 : PySem.W.codeIn K cd26 "_law_cell" = true) (k26 : PySem.W.keepIn K (.ref f26) = true)
    (a27 : PySem.W.nsIn K mainGlobals "_law_is_whole" = some (some (.ref f27))) (l27 : K.lookup f27 = some ⟨oc27, od27, .func (PySem.W.fnOf "_law_is_whole" "_law_is_whole" (defArgs s__law_is_whole) (defBody s__law_is_whole) (defScope s__law_is_whole) .none kV27 dc27 pm27 an27 cd27 ct27), sl27⟩) (c27 : PySem.W.codeIn K cd27 "_law_is_whole" = true) (k27 : PySem.W.keepIn K (.ref f27) = true)
    (a28 : PySem.W.nsIn K mainGlobals "law" = some (some (.ref f28))) (l28 : K.lookup f28 = some ⟨oc28, od28, .func (PySem.W.fnOf "law" "law" (defArgs s_law) (defBody s_law) (defScope s_law) .none kV28 dc28 pm28 an28 cd28 ct28), sl28⟩) (c28 : PySem.W.codeIn K cd28 "law" = true) (k28 : PySem.W.keepIn K (.ref f28) = true)
    (zb_len : PySem.W.nsIn K mainGlobals "len" = some none)
    (zb_int : PySem.W.nsIn K mainGlobals "int" = some none)
    (zb_list : PySem.W.nsIn K mainGlobals "list" = some none)
    (zb_tuple : PySem.W.nsIn K mainGlobals "tuple" = some none)
    (zb_range : PySem.W.nsIn K mainGlobals "range" = some none)
    (zb_enumerate : PySem.W.nsIn K mainGlobals "enumerate" = some none)
    (zb_isinstance : PySem.W.nsIn K mainGlobals "isinstance" = some none)
    (zb_bool : PySem.W.nsIn K mainGlobals "bool" = some none)
    (zb_min : PySem.W.nsIn K mainGlobals "min" = some none)
    (zb_sum : PySem.W.nsIn K mainGlobals "sum" = some none)
    (zb_set : PySem.W.nsIn K mainGlobals "set" = some none)
    (zb_ValueError : PySem.W.nsIn K mainGlobals "ValueError" = some none)
    (zb_repr : PySem.W.nsIn K mainGlobals "repr" = some none)
    (zc_MOST_PRIME : PySem.W.nsIn K mainGlobals "MOST_PRIME" = some (some (.int 65521 tk_MOST_PRIME)))
    (zc_MOST_NUMBERS : PySem.W.nsIn K mainGlobals "MOST_NUMBERS" = some (some (.int 12 tk_MOST_NUMBERS)))
    (zc_MOST_SHELVES : PySem.W.nsIn K mainGlobals "MOST_SHELVES" = some (some (.int 8 tk_MOST_SHELVES)))
    (zc_MOST_CELLS : PySem.W.nsIn K mainGlobals "MOST_CELLS" = some (some (.int 1024 tk_MOST_CELLS)))
    (aR : PySem.W.nsIn K mainGlobals "Refused" = some (some (.ref CR)))
    (aC_BadGround : PySem.W.nsIn K mainGlobals "BadGround" = some (some (.ref C_BadGround)))
    (xL_BadGround : K.lookup C_BadGround = some (excClassObj nm_BadGround q_BadGround C_BadGround N_BadGround bs_BadGround [.ref CR, .type "ValueError", .type "Exception", .type "BaseException", .type "object"] true sn_BadGround sb_BadGround ab_BadGround col_BadGround dd_BadGround m0_BadGround m1_BadGround m2_BadGround m3_BadGround m5_BadGround "ValueError.__new__"))
    (sa_BadGround : PySem.W.findIn K (.ref C_BadGround) "__setattr__" = some (some (.builtin "object.__setattr__")))
    (ga_BadGround : PySem.W.findIn K (.ref C_BadGround) "__getattribute__" = some (some (.builtin "BaseException.__getattribute__")))
    (gg_BadGround : PySem.W.findIn K (.ref C_BadGround) "__getattr__" = some none)
    (nW_BadGround : PySem.W.findIn K (.ref C_BadGround) "what" = some none)
    (iC_BadGround : PySem.W.findIn K (.ref C_BadGround) "__init__" = some (some (.ref fI)))
    (kC_BadGround : PySem.W.keepIn K (.ref C_BadGround) = true)
    (eC_BadGround : PySem.W.subIn K (.ref C_BadGround) (.type "BaseException") = some true)
    (tC_BadGround : PySem.W.typeIn K (.ref C_BadGround) = some (.type "type"))
    (hC_BadGround : PySem.W.hasDictIn K C_BadGround = true)
    (sC_BadGround : PySem.W.subIn K (.ref C_BadGround) (.ref C_BadGround) = some true)
    (cC_BadGround : PySem.W.findIn K (.ref C_BadGround) "__class__" = some (some (.builtin "object.__class__")))
    (mC_BadGround : PySem.W.mroIn K C_BadGround (.type "object") = some true)
    (rC_BadGround : PySem.W.kitOne K (.ref C_BadGround) (.ref CR) = some true)
    (vC_BadGround : PySem.W.kitOne K (.ref C_BadGround) (.type "ValueError") = some true)
    (tI : PySem.W.typeIn K (.ref fI) = some (.type "function")) (lI : K.lookup fI = some ⟨ocI, odI, .func (PySem.W.fnOf "__init__" "Refused.__init__" (defArgs s_Refused___init__) (defBody s_Refused___init__) (defScope s_Refused___init__) .none kVI dcI pmI anI cdI ctI), slI⟩) (cI : PySem.W.codeIn K cdI "Refused.__init__" = true) (kI : PySem.W.keepIn K (.ref fI) = true)
    (gs : PySem.W.specialIn K (.builtin "object.__class__") "__get__" = some (some (.builtin "getset_descriptor.__get__"))) (gt : PySem.W.takesIn K (.builtin "object.__class__") = some true)
    (aC_BadBatch : PySem.W.nsIn K mainGlobals "BadBatch" = some (some (.ref C_BadBatch)))
    (xL_BadBatch : K.lookup C_BadBatch = some (excClassObj nm_BadBatch q_BadBatch C_BadBatch N_BadBatch bs_BadBatch [.ref CR, .type "ValueError", .type "Exception", .type "BaseException", .type "object"] true sn_BadBatch sb_BadBatch ab_BadBatch col_BadBatch dd_BadBatch m0_BadBatch m1_BadBatch m2_BadBatch m3_BadBatch m5_BadBatch "ValueError.__new__"))
    (sa_BadBatch : PySem.W.findIn K (.ref C_BadBatch) "__setattr__" = some (some (.builtin "object.__setattr__")))
    (ga_BadBatch : PySem.W.findIn K (.ref C_BadBatch) "__getattribute__" = some (some (.builtin "BaseException.__getattribute__")))
    (gg_BadBatch : PySem.W.findIn K (.ref C_BadBatch) "__getattr__" = some none)
    (nW_BadBatch : PySem.W.findIn K (.ref C_BadBatch) "what" = some none)
    (iC_BadBatch : PySem.W.findIn K (.ref C_BadBatch) "__init__" = some (some (.ref fI)))
    (kC_BadBatch : PySem.W.keepIn K (.ref C_BadBatch) = true)
    (eC_BadBatch : PySem.W.subIn K (.ref C_BadBatch) (.type "BaseException") = some true)
    (tC_BadBatch : PySem.W.typeIn K (.ref C_BadBatch) = some (.type "type"))
    (hC_BadBatch : PySem.W.hasDictIn K C_BadBatch = true)
    (sC_BadBatch : PySem.W.subIn K (.ref C_BadBatch) (.ref C_BadBatch) = some true)
    (cC_BadBatch : PySem.W.findIn K (.ref C_BadBatch) "__class__" = some (some (.builtin "object.__class__")))
    (mC_BadBatch : PySem.W.mroIn K C_BadBatch (.type "object") = some true)
    (rC_BadBatch : PySem.W.kitOne K (.ref C_BadBatch) (.ref CR) = some true)
    (vC_BadBatch : PySem.W.kitOne K (.ref C_BadBatch) (.type "ValueError") = some true)
    (aC_BadShelf : PySem.W.nsIn K mainGlobals "BadShelf" = some (some (.ref C_BadShelf)))
    (xL_BadShelf : K.lookup C_BadShelf = some (excClassObj nm_BadShelf q_BadShelf C_BadShelf N_BadShelf bs_BadShelf [.ref CR, .type "ValueError", .type "Exception", .type "BaseException", .type "object"] true sn_BadShelf sb_BadShelf ab_BadShelf col_BadShelf dd_BadShelf m0_BadShelf m1_BadShelf m2_BadShelf m3_BadShelf m5_BadShelf "ValueError.__new__"))
    (sa_BadShelf : PySem.W.findIn K (.ref C_BadShelf) "__setattr__" = some (some (.builtin "object.__setattr__")))
    (ga_BadShelf : PySem.W.findIn K (.ref C_BadShelf) "__getattribute__" = some (some (.builtin "BaseException.__getattribute__")))
    (gg_BadShelf : PySem.W.findIn K (.ref C_BadShelf) "__getattr__" = some none)
    (nW_BadShelf : PySem.W.findIn K (.ref C_BadShelf) "what" = some none)
    (iC_BadShelf : PySem.W.findIn K (.ref C_BadShelf) "__init__" = some (some (.ref fI)))
    (kC_BadShelf : PySem.W.keepIn K (.ref C_BadShelf) = true)
    (eC_BadShelf : PySem.W.subIn K (.ref C_BadShelf) (.type "BaseException") = some true)
    (tC_BadShelf : PySem.W.typeIn K (.ref C_BadShelf) = some (.type "type"))
    (hC_BadShelf : PySem.W.hasDictIn K C_BadShelf = true)
    (sC_BadShelf : PySem.W.subIn K (.ref C_BadShelf) (.ref C_BadShelf) = some true)
    (cC_BadShelf : PySem.W.findIn K (.ref C_BadShelf) "__class__" = some (some (.builtin "object.__class__")))
    (mC_BadShelf : PySem.W.mroIn K C_BadShelf (.type "object") = some true)
    (rC_BadShelf : PySem.W.kitOne K (.ref C_BadShelf) (.ref CR) = some true)
    (vC_BadShelf : PySem.W.kitOne K (.ref C_BadShelf) (.type "ValueError") = some true)
    (aC_BadPlace : PySem.W.nsIn K mainGlobals "BadPlace" = some (some (.ref C_BadPlace)))
    (xL_BadPlace : K.lookup C_BadPlace = some (excClassObj nm_BadPlace q_BadPlace C_BadPlace N_BadPlace bs_BadPlace [.ref CR, .type "ValueError", .type "Exception", .type "BaseException", .type "object"] true sn_BadPlace sb_BadPlace ab_BadPlace col_BadPlace dd_BadPlace m0_BadPlace m1_BadPlace m2_BadPlace m3_BadPlace m5_BadPlace "ValueError.__new__"))
    (sa_BadPlace : PySem.W.findIn K (.ref C_BadPlace) "__setattr__" = some (some (.builtin "object.__setattr__")))
    (ga_BadPlace : PySem.W.findIn K (.ref C_BadPlace) "__getattribute__" = some (some (.builtin "BaseException.__getattribute__")))
    (gg_BadPlace : PySem.W.findIn K (.ref C_BadPlace) "__getattr__" = some none)
    (nW_BadPlace : PySem.W.findIn K (.ref C_BadPlace) "what" = some none)
    (iC_BadPlace : PySem.W.findIn K (.ref C_BadPlace) "__init__" = some (some (.ref fI)))
    (kC_BadPlace : PySem.W.keepIn K (.ref C_BadPlace) = true)
    (eC_BadPlace : PySem.W.subIn K (.ref C_BadPlace) (.type "BaseException") = some true)
    (tC_BadPlace : PySem.W.typeIn K (.ref C_BadPlace) = some (.type "type"))
    (hC_BadPlace : PySem.W.hasDictIn K C_BadPlace = true)
    (sC_BadPlace : PySem.W.subIn K (.ref C_BadPlace) (.ref C_BadPlace) = some true)
    (cC_BadPlace : PySem.W.findIn K (.ref C_BadPlace) "__class__" = some (some (.builtin "object.__class__")))
    (mC_BadPlace : PySem.W.mroIn K C_BadPlace (.type "object") = some true)
    (rC_BadPlace : PySem.W.kitOne K (.ref C_BadPlace) (.ref CR) = some true)
    (vC_BadPlace : PySem.W.kitOne K (.ref C_BadPlace) (.type "ValueError") = some true)
    (qE : errsB K ([("BadGround", C_BadGround), ("BadBatch", C_BadBatch), ("BadShelf", C_BadShelf), ("BadPlace", C_BadPlace), ("Refused", CR)] : List (Str × Addr)) errsL hnsL = true)
    (q1 : (([(c_numbers_fit, He.tabOf K c_numbers_fit), (c__law_refused, He.tabOf K c__law_refused)] : List (Addr × Addr)).all fun p => ts.contains p.2) = true) (q2 : (([(c_numbers_fit, He.tabOf K c_numbers_fit), (c__law_refused, He.tabOf K c__law_refused)] : List (Addr × Addr)).all fun p => (K.lookup p.2).isNone) = true) (q3 : (([(c_numbers_fit, He.tabOf K c_numbers_fit), (c__law_refused, He.tabOf K c__law_refused)] : List (Addr × Addr)).all fun p => PySem.W.codeHdIn K p.1 p.2) = true) (q4 : decide (([(c_numbers_fit, He.tabOf K c_numbers_fit), (c__law_refused, He.tabOf K c__law_refused)] : List (Addr × Addr)).map (·.2)).Nodup = true) :
    LamX.LawAtS l w K (L2.CX l.prog w) 15 63 "script" mg fa h := by
  have e := hfa.symm.trans (PySem.W.mg_of X G a28)
  cases e
  have T : Txt K mg := { b_len := PySem.W.mg_none_of X G zb_len, b_int := PySem.W.mg_none_of X G zb_int, b_list := PySem.W.mg_none_of X G zb_list, b_tuple := PySem.W.mg_none_of X G zb_tuple, b_range := PySem.W.mg_none_of X G zb_range, b_enumerate := PySem.W.mg_none_of X G zb_enumerate, b_isinstance := PySem.W.mg_none_of X G zb_isinstance, b_bool := PySem.W.mg_none_of X G zb_bool, b_min := PySem.W.mg_none_of X G zb_min, b_sum := PySem.W.mg_none_of X G zb_sum, b_set := PySem.W.mg_none_of X G zb_set, b_ValueError := PySem.W.mg_none_of X G zb_ValueError, b_repr := PySem.W.mg_none_of X G zb_repr, c_MOST_PRIME := ⟨_, PySem.W.mg_of X G zc_MOST_PRIME⟩, c_MOST_NUMBERS := ⟨_, PySem.W.mg_of X G zc_MOST_NUMBERS⟩, c_MOST_SHELVES := ⟨_, PySem.W.mg_of X G zc_MOST_SHELVES⟩, c_MOST_CELLS := ⟨_, PySem.W.mg_of X G zc_MOST_CELLS⟩ }
  have F0 := fun_mk (st := s__law_pool) l0 c0 k0
  have D__law_pool : DefAt K mg "_law_pool" s__law_pool ["script"] f0 _ := ⟨F0, F0.binds (ps := ["script"]) fun _ _ _ _ _ _ us hl => match us, hl with | [_], _ => rfl, PySem.W.mg_of X G a0⟩
  have F1 := fun_mk (st := s__law_draw) l1 c1 k1
  have D__law_draw : DefAt K mg "_law_draw" s__law_draw ["pool", "many"] f1 _ := ⟨F1, F1.binds (ps := ["pool", "many"]) fun _ _ _ _ _ _ us hl => match us, hl with | [_, _], _ => rfl, PySem.W.mg_of X G a1⟩
  have F2 := fun_mk (st := s__law_pick) l2 c2 k2
  have D__law_pick : DefAt K mg "_law_pick" s__law_pick ["pool", "things"] f2 _ := ⟨F2, F2.binds (ps := ["pool", "things"]) fun _ _ _ _ _ _ us hl => match us, hl with | [_, _], _ => rfl, PySem.W.mg_of X G a2⟩
  have F3 := fun_mk (st := s__law_turned) l3 c3 k3
  have D__law_turned : DefAt K mg "_law_turned" s__law_turned ["pool", "many"] f3 _ := ⟨F3, F3.binds (ps := ["pool", "many"]) fun _ _ _ _ _ _ us hl => match us, hl with | [_, _], _ => rfl, PySem.W.mg_of X G a3⟩
  have F4 := fun_mk (st := s__law_ground) l4 c4 k4
  have D__law_ground : DefAt K mg "_law_ground" s__law_ground ["pool", "most", "many"] f4 _ := ⟨F4, F4.binds (ps := ["pool", "most", "many"]) fun _ _ _ _ _ _ us hl => match us, hl with | [_, _, _], _ => rfl, PySem.W.mg_of X G a4⟩
  have F5 := fun_mk (st := s__law_batch) l5 c5 k5
  have D__law_batch : DefAt K mg "_law_batch" s__law_batch ["pool", "ground"] f5 _ := ⟨F5, F5.binds (ps := ["pool", "ground"]) fun _ _ _ _ _ _ us hl => match us, hl with | [_, _], _ => rfl, PySem.W.mg_of X G a5⟩
  have F6 := fun_mk (st := s__law_heard) l6 c6 k6
  have D__law_heard : DefAt K mg "_law_heard" s__law_heard ["call"] f6 _ := ⟨F6, F6.binds (ps := ["call"]) fun _ _ _ _ _ _ us hl => match us, hl with | [_], _ => rfl, PySem.W.mg_of X G a6⟩
  have F7 := fun_mk (st := s__law_is) l7 c7 k7
  have D__law_is : DefAt K mg "_law_is" s__law_is ["call", "name", "what"] f7 _ := ⟨F7, F7.binds (ps := ["call", "name", "what"]) fun _ _ _ _ _ _ us hl => match us, hl with | [_, _, _], _ => rfl, PySem.W.mg_of X G a7⟩
  have F8 := fun_mk (st := s_is_number) l8 c8 k8
  have D_is_number : DefAt K mg "is_number" s_is_number ["thing"] f8 _ := ⟨F8, F8.binds (ps := ["thing"]) fun _ _ _ _ _ _ us hl => match us, hl with | [_], _ => rfl, PySem.W.mg_of X G a8⟩
  have F9 := fun_mk (st := s_number_between) l9 c9 k9
  have D_number_between : DefAt K mg "number_between" s_number_between ["thing", "least", "most"] f9 _ := ⟨F9, F9.binds (ps := ["thing", "least", "most"]) fun _ _ _ _ _ _ us hl => match us, hl with | [_, _, _], _ => rfl, PySem.W.mg_of X G a9⟩
  have F10 := fun_mk (st := s_is_prime) l10 c10 k10
  have D_is_prime : DefAt K mg "is_prime" s_is_prime ["n"] f10 _ := ⟨F10, F10.binds (ps := ["n"]) fun _ _ _ _ _ _ us hl => match us, hl with | [_], _ => rfl, PySem.W.mg_of X G a10⟩
  have F11 := fun_mk (st := s_tuple_fault) l11 c11 k11
  have D_tuple_fault : DefAt K mg "tuple_fault" s_tuple_fault ["thing", "least", "most", "fits"] f11 _ := ⟨F11, F11.binds (ps := ["thing", "least", "most", "fits"]) fun _ _ _ _ _ _ us hl => match us, hl with | [_, _, _, _], _ => rfl, PySem.W.mg_of X G a11⟩
  have F12 := fun_mk (st := s_tuple_fits) l12 c12 k12
  have D_tuple_fits : DefAt K mg "tuple_fits" s_tuple_fits ["thing", "least", "most", "fits"] f12 _ := ⟨F12, F12.binds (ps := ["thing", "least", "most", "fits"]) fun _ _ _ _ _ _ us hl => match us, hl with | [_, _, _, _], _ => rfl, PySem.W.mg_of X G a12⟩
  have F13 := fun_mk (st := s_numbers_fit) l13 c13 k13
  have D_numbers_fit : DefAt K mg "numbers_fit" s_numbers_fit ["thing", "least", "most", "greatest"] f13 _ := ⟨F13, F13.binds (ps := ["thing", "least", "most", "greatest"]) fun _ _ _ _ _ _ us hl => match us, hl with | [_, _, _, _], _ => rfl, PySem.W.mg_of X G a13⟩
  have C_numbers_fit : CodeAt K "numbers_fit" s_numbers_fit f13 _ c_numbers_fit := codeAt_mk l13 c13
  have F14 := fun_mk (st := s_points_fit) l14 c14 k14
  have D_points_fit : DefAt K mg "points_fit" s_points_fit ["p", "thing"] f14 _ := ⟨F14, F14.binds (ps := ["p", "thing"]) fun _ _ _ _ _ _ us hl => match us, hl with | [_, _], _ => rfl, PySem.W.mg_of X G a14⟩
  have F15 := fun_mk (st := s_ground_fault) l15 c15 k15
  have D_ground_fault : DefAt K mg "ground_fault" s_ground_fault ["thing"] f15 _ := ⟨F15, F15.binds (ps := ["thing"]) fun _ _ _ _ _ _ us hl => match us, hl with | [_], _ => rfl, PySem.W.mg_of X G a15⟩
  have F16 := fun_mk (st := s_made_ground) l16 c16 k16
  have D_made_ground : DefAt K mg "made_ground" s_made_ground ["thing"] f16 _ := ⟨F16, F16.binds (ps := ["thing"]) fun _ _ _ _ _ _ us hl => match us, hl with | [_], _ => rfl, PySem.W.mg_of X G a16⟩
  have F17 := fun_mk (st := s_shelf_fits) l17 c17 k17
  have D_shelf_fits : DefAt K mg "shelf_fits" s_shelf_fits ["ground", "thing"] f17 _ := ⟨F17, F17.binds (ps := ["ground", "thing"]) fun _ _ _ _ _ _ us hl => match us, hl with | [_, _], _ => rfl, PySem.W.mg_of X G a17⟩
  have F18 := fun_mk (st := s_made_shelf) l18 c18 k18
  have D_made_shelf : DefAt K mg "made_shelf" s_made_shelf ["ground", "thing"] f18 _ := ⟨F18, F18.binds (ps := ["ground", "thing"]) fun _ _ _ _ _ _ us hl => match us, hl with | [_, _], _ => rfl, PySem.W.mg_of X G a18⟩
  have F19 := fun_mk (st := s_point_of) l19 c19 k19
  have D_point_of : DefAt K mg "point_of" s_point_of ["ground", "shelf"] f19 _ := ⟨F19, F19.binds (ps := ["ground", "shelf"]) fun _ _ _ _ _ _ us hl => match us, hl with | [_, _], _ => rfl, PySem.W.mg_of X G a19⟩
  have F20 := fun_mk (st := s_powers) l20 c20 k20
  have D_powers : DefAt K mg "powers" s_powers ["p", "a", "many"] f20 _ := ⟨F20, F20.binds (ps := ["p", "a", "many"]) fun _ _ _ _ _ _ us hl => match us, hl with | [_, _, _], _ => rfl, PySem.W.mg_of X G a20⟩
  have F21 := fun_mk (st := s_later_weights) l21 c21 k21
  have D_later_weights : DefAt K mg "later_weights" s_later_weights ["p", "point", "weights"] f21 _ := ⟨F21, F21.binds (ps := ["p", "point", "weights"]) fun _ _ _ _ _ _ us hl => match us, hl with | [_, _, _], _ => rfl, PySem.W.mg_of X G a21⟩
  have F22 := fun_mk (st := s_value_weights) l22 c22 k22
  have D_value_weights : DefAt K mg "value_weights" s_value_weights ["p", "many", "point", "j"] f22 _ := ⟨F22, F22.binds (ps := ["p", "many", "point", "j"]) fun _ _ _ _ _ _ us hl => match us, hl with | [_, _, _, _], _ => rfl, PySem.W.mg_of X G a22⟩
  have F23 := fun_mk (st := s_equation) l23 c23 k23
  have D_equation : DefAt K mg "equation" s_equation ["ground", "shelf", "j"] f23 _ := ⟨F23, F23.binds (ps := ["ground", "shelf", "j"]) fun _ _ _ _ _ _ us hl => match us, hl with | [_, _, _], _ => rfl, PySem.W.mg_of X G a23⟩
  have F24 := fun_mk (st := s__law_refused) l24 c24 k24
  have D__law_refused : DefAt K mg "_law_refused" s__law_refused ["ground"] f24 _ := ⟨F24, F24.binds (ps := ["ground"]) fun _ _ _ _ _ _ us hl => match us, hl with | [_], _ => rfl, PySem.W.mg_of X G a24⟩
  have C__law_refused : CodeAt K "_law_refused" s__law_refused f24 _ c__law_refused := codeAt_mk l24 c24
  have F25 := fun_mk (st := s__law_written_out) l25 c25 k25
  have D__law_written_out : DefAt K mg "_law_written_out" s__law_written_out ["p", "form", "point"] f25 _ := ⟨F25, F25.binds (ps := ["p", "form", "point"]) fun _ _ _ _ _ _ us hl => match us, hl with | [_, _, _], _ => rfl, PySem.W.mg_of X G a25⟩
  have F26 := fun_mk (st := s__law_cell) l26 c26 k26
  have D__law_cell : DefAt K mg "_law_cell" s__law_cell ["ground", "batch", "shelf", "j"] f26 _ := ⟨F26, F26.binds (ps := ["ground", "batch", "shelf", "j"]) fun _ _ _ _ _ _ us hl => match us, hl with | [_, _, _, _], _ => rfl, PySem.W.mg_of X G a26⟩
  have F27 := fun_mk (st := s__law_is_whole) l27 c27 k27
  have D__law_is_whole : DefAt K mg "_law_is_whole" s__law_is_whole ["thing"] f27 _ := ⟨F27, F27.binds (ps := ["thing"]) fun _ _ _ _ _ _ us hl => match us, hl with | [_], _ => rfl, PySem.W.mg_of X G a27⟩
  have F28 := fun_mk (st := s_law) l28 c28 k28
  have D_law : DefAt K mg "law" s_law ["script"] fa _ := ⟨F28, F28.binds (ps := ["script"]) fun _ _ _ _ _ _ us hl => match us, hl with | [_], _ => rfl, PySem.W.mg_of X G a28⟩
  have gR := PySem.W.mg_of X G aR
  have F_init := fun_mk (st := s_Refused___init__) lI cI kI
  have b_init := F_init.binds (ps := ["self", "what"]) fun _ _ _ _ _ _ us hl => match us, hl with | [_, _], _ => rfl
  have X_BadGround : ErrC K mg "BadGround" C_BadGround fI CR := { T := ⟨⟨nm_BadGround, q_BadGround, N_BadGround, bs_BadGround, _, sn_BadGround, sb_BadGround, ab_BadGround, col_BadGround, dd_BadGround, m0_BadGround, m1_BadGround, m2_BadGround, m3_BadGround, m5_BadGround, xL_BadGround, by rfl⟩, sa_BadGround, eC_BadGround, tC_BadGround, kC_BadGround⟩, iC := iC_BadGround, tI := tI, g := PySem.W.mg_of X G aC_BadGround, nW := nW_BadGround, X := ⟨ga_BadGround, gg_BadGround, eC_BadGround, hC_BadGround, cC_BadGround, gs, gt, mC_BadGround⟩, XF := ⟨ga_BadGround, gg_BadGround, eC_BadGround, hC_BadGround⟩, te := PySem.W.exm_ref eC_BadGround hC_BadGround tC_BadGround sC_BadGround, isR := rC_BadGround, isV := vC_BadGround }
  have X_BadBatch : ErrC K mg "BadBatch" C_BadBatch fI CR := { T := ⟨⟨nm_BadBatch, q_BadBatch, N_BadBatch, bs_BadBatch, _, sn_BadBatch, sb_BadBatch, ab_BadBatch, col_BadBatch, dd_BadBatch, m0_BadBatch, m1_BadBatch, m2_BadBatch, m3_BadBatch, m5_BadBatch, xL_BadBatch, by rfl⟩, sa_BadBatch, eC_BadBatch, tC_BadBatch, kC_BadBatch⟩, iC := iC_BadBatch, tI := tI, g := PySem.W.mg_of X G aC_BadBatch, nW := nW_BadBatch, X := ⟨ga_BadBatch, gg_BadBatch, eC_BadBatch, hC_BadBatch, cC_BadBatch, gs, gt, mC_BadBatch⟩, XF := ⟨ga_BadBatch, gg_BadBatch, eC_BadBatch, hC_BadBatch⟩, te := PySem.W.exm_ref eC_BadBatch hC_BadBatch tC_BadBatch sC_BadBatch, isR := rC_BadBatch, isV := vC_BadBatch }
  have X_BadShelf : ErrC K mg "BadShelf" C_BadShelf fI CR := { T := ⟨⟨nm_BadShelf, q_BadShelf, N_BadShelf, bs_BadShelf, _, sn_BadShelf, sb_BadShelf, ab_BadShelf, col_BadShelf, dd_BadShelf, m0_BadShelf, m1_BadShelf, m2_BadShelf, m3_BadShelf, m5_BadShelf, xL_BadShelf, by rfl⟩, sa_BadShelf, eC_BadShelf, tC_BadShelf, kC_BadShelf⟩, iC := iC_BadShelf, tI := tI, g := PySem.W.mg_of X G aC_BadShelf, nW := nW_BadShelf, X := ⟨ga_BadShelf, gg_BadShelf, eC_BadShelf, hC_BadShelf, cC_BadShelf, gs, gt, mC_BadShelf⟩, XF := ⟨ga_BadShelf, gg_BadShelf, eC_BadShelf, hC_BadShelf⟩, te := PySem.W.exm_ref eC_BadShelf hC_BadShelf tC_BadShelf sC_BadShelf, isR := rC_BadShelf, isV := vC_BadShelf }
  have X_BadPlace : ErrC K mg "BadPlace" C_BadPlace fI CR := { T := ⟨⟨nm_BadPlace, q_BadPlace, N_BadPlace, bs_BadPlace, _, sn_BadPlace, sb_BadPlace, ab_BadPlace, col_BadPlace, dd_BadPlace, m0_BadPlace, m1_BadPlace, m2_BadPlace, m3_BadPlace, m5_BadPlace, xL_BadPlace, by rfl⟩, sa_BadPlace, eC_BadPlace, tC_BadPlace, kC_BadPlace⟩, iC := iC_BadPlace, tI := tI, g := PySem.W.mg_of X G aC_BadPlace, nW := nW_BadPlace, X := ⟨ga_BadPlace, gg_BadPlace, eC_BadPlace, hC_BadPlace, cC_BadPlace, gs, gt, mC_BadPlace⟩, XF := ⟨ga_BadPlace, gg_BadPlace, eC_BadPlace, hC_BadPlace⟩, te := PySem.W.exm_ref eC_BadPlace hC_BadPlace tC_BadPlace sC_BadPlace, isR := rC_BadPlace, isV := vC_BadPlace }
  have EO : ErrsOk K mg errsL hnsL := errsOk_of (t := [("BadGround", C_BadGround), ("BadBatch", C_BadBatch), ("BadShelf", C_BadShelf), ("BadPlace", C_BadPlace), ("Refused", CR)]) (fun p hp => by
    simp only [List.mem_cons, List.not_mem_nil, or_false] at hp
    rcases hp with rfl | rfl | rfl | rfl | rfl
    · exact PySem.W.mg_of X G aC_BadGround
    · exact PySem.W.mg_of X G aC_BadBatch
    · exact PySem.W.mg_of X G aC_BadShelf
    · exact PySem.W.mg_of X G aC_BadPlace
    · exact PySem.W.mg_of X G aR) qE
  refine law_atC (fd := (PySem.W.fnOf "law" "law" (defArgs s_law) (defBody s_law) (defScope s_law) .none kV28 dc28 pm28 an28 cd28 ct28)) ([(c_numbers_fit, He.tabOf K c_numbers_fit), (c__law_refused, He.tabOf K c__law_refused)] : List (Addr × Addr)) ([lamQ "numbers_fit", lamQ "_law_refused"] : List Str) X hT q1 q2 q3 (fun s v => .of_eq rfl) fun base _ _ hTB => ?_
  have q5 := of_decide_eq_true q4
  have L_numbers_fit : LamAt ((([(c_numbers_fit, He.tabOf K c_numbers_fit), (c__law_refused, He.tabOf K c__law_refused)] : List (Addr × Addr)).map (·.2)).zip ([lamQ "numbers_fit", lamQ "_law_refused"] : List Str)) base mg "numbers_fit" c_numbers_fit (He.tabOf K c_numbers_fit) := ⟨hTB (c_numbers_fit, He.tabOf K c_numbers_fit) (by simp), by simp, zip_u q5 (by simp)⟩
  have L__law_refused : LamAt ((([(c_numbers_fit, He.tabOf K c_numbers_fit), (c__law_refused, He.tabOf K c__law_refused)] : List (Addr × Addr)).map (·.2)).zip ([lamQ "numbers_fit", lamQ "_law_refused"] : List Str)) base mg "_law_refused" c__law_refused (He.tabOf K c__law_refused) := ⟨hTB (c__law_refused, He.tabOf K c__law_refused) (by simp), by simp, zip_u q5 (by simp)⟩
  generalize ((([(c_numbers_fit, He.tabOf K c_numbers_fit), (c__law_refused, He.tabOf K c__law_refused)] : List (Addr × Addr)).map (·.2)).zip ([lamQ "numbers_fit", lamQ "_law_refused"] : List Str)) = TZ at L_numbers_fit L__law_refused ⊢
  have G_init := ok_init (P := l.prog) (w := w) (mg := mg) (base := base) F_init
  have F__law_pool := ok__law_pool (P := l.prog) (w := w) (base := base) (TZ := TZ) D__law_pool T
  have F__law_draw := ok__law_draw (P := l.prog) (w := w) (base := base) (TZ := TZ) D__law_draw T
  have F__law_pick := ok__law_pick (P := l.prog) (w := w) (base := base) (TZ := TZ) D__law_pick T F__law_draw
  have F__law_turned := ok__law_turned (P := l.prog) (w := w) (base := base) (TZ := TZ) D__law_turned T F__law_draw
  have F__law_ground := ok__law_ground (P := l.prog) (w := w) (base := base) (TZ := TZ) D__law_ground T F__law_pick F__law_draw F__law_turned
  have F__law_batch := ok__law_batch (P := l.prog) (w := w) (base := base) (TZ := TZ) D__law_batch T F__law_draw
  have F__law_heard_11 := ok__law_heard_11 (P := l.prog) (w := w) (base := base) (TZ := TZ) D__law_heard T EO X_BadGround X_BadBatch X_BadShelf X_BadPlace gR
  have F__law_is_11 := ok__law_is_11 (P := l.prog) (w := w) (base := base) (TZ := TZ) D__law_is T F__law_heard_11
  have F_is_number := ok_is_number (P := l.prog) (w := w) (base := base) (TZ := TZ) D_is_number T
  have F_number_between := ok_number_between (P := l.prog) (w := w) (base := base) (TZ := TZ) D_number_between T F_is_number
  have F_is_prime := ok_is_prime (P := l.prog) (w := w) (base := base) (TZ := TZ) D_is_prime T F_number_between
  have F_tuple_fault_3 := ok_tuple_fault_3 (P := l.prog) (w := w) (base := base) (TZ := TZ) D_tuple_fault T
  have F_tuple_fits_3 := ok_tuple_fits_3 (P := l.prog) (w := w) (base := base) (TZ := TZ) D_tuple_fits T F_tuple_fault_3
  have F_numbers_fit := ok_numbers_fit (P := l.prog) (w := w) (base := base) (TZ := TZ) D_numbers_fit C_numbers_fit L_numbers_fit T F_tuple_fits_3 F_number_between
  have F_points_fit := ok_points_fit (P := l.prog) (w := w) (base := base) (TZ := TZ) D_points_fit T F_numbers_fit
  have F_ground_fault := ok_ground_fault (P := l.prog) (w := w) (base := base) (TZ := TZ) D_ground_fault T F_is_prime F_number_between F_points_fit
  have F_made_ground := ok_made_ground (P := l.prog) (w := w) (base := base) (TZ := TZ) D_made_ground T F_ground_fault G_init b_init X_BadGround
  have F_shelf_fits := ok_shelf_fits (P := l.prog) (w := w) (base := base) (TZ := TZ) D_shelf_fits T F_number_between
  have F_made_shelf := ok_made_shelf (P := l.prog) (w := w) (base := base) (TZ := TZ) D_made_shelf T F_shelf_fits G_init b_init X_BadShelf
  have F_point_of := ok_point_of (P := l.prog) (w := w) (base := base) (TZ := TZ) D_point_of T F_made_shelf
  have F_powers := ok_powers (P := l.prog) (w := w) (base := base) (TZ := TZ) D_powers T
  have F_later_weights := ok_later_weights (P := l.prog) (w := w) (base := base) (TZ := TZ) D_later_weights T
  have F_value_weights := ok_value_weights (P := l.prog) (w := w) (base := base) (TZ := TZ) D_value_weights T F_powers F_later_weights
  have F_equation := ok_equation (P := l.prog) (w := w) (base := base) (TZ := TZ) D_equation T F_made_ground F_point_of F_value_weights F_number_between G_init b_init X_BadPlace
  have F__law_refused := ok__law_refused (P := l.prog) (w := w) (base := base) (TZ := TZ) D__law_refused C__law_refused L__law_refused T F__law_is_11 F_equation
  have F__law_written_out := ok__law_written_out (P := l.prog) (w := w) (base := base) (TZ := TZ) D__law_written_out T
  have F__law_cell := ok__law_cell (P := l.prog) (w := w) (base := base) (TZ := TZ) D__law_cell T F__law_written_out
  have F__law_is_whole := ok__law_is_whole (P := l.prog) (w := w) (base := base) (TZ := TZ) D__law_is_whole T
  exact ok_lawE (P := l.prog) (w := w) (base := base) (TZ := TZ) D_law T F__law_pool F__law_ground F__law_batch F__law_refused F__law_draw F_equation F__law_cell F__law_is_whole told_law
end Lw

open PySem PySem.W PyProof.Rows in
set_option maxRecDepth 100000 in
set_option maxHeartbeats 0 in
theorem PySem.Challenge.cw_firstsafe_k05_equations_of_cells_holds : PySem.Challenge.rw_firstsafe_k05_equations_of_cells.Holds := by
  w_on; o_law; k_head; (case hw => w_witness2)
  k_fill
  refine LamX.walk_ofTs (l := PySem.Challenge.rw_firstsafe_k05_equations_of_cells) (n := 63) (k := 15) (x := "script") (CX := fun w => L2.CX (PySem.Challenge.rw_firstsafe_k05_equations_of_cells).prog w) rfl (by decide) rfl ⟨rfl, by decide, by decide⟩ (fun w h Y => PySem.W.km_in_of Y) ?F ?Z
  case F =>
    intro w mg fa h Y KX G hmg
    refine' Lw.all_mk KX G hmg (PySem.W.km_tabs_of Y) ?a0 ?l0 ?c0 ?k0 ?a1 ?l1 ?c1 ?k1 ?a2 ?l2 ?c2 ?k2 ?a3 ?l3 ?c3 ?k3 ?a4 ?l4 ?c4 ?k4 ?a5 ?l5 ?c5 ?k5 ?a6 ?l6 ?c6 ?k6 ?a7 ?l7 ?c7 ?k7 ?a8 ?l8 ?c8 ?k8 ?a9 ?l9 ?c9 ?k9 ?a10 ?l10 ?c10 ?k10 ?a11 ?l11 ?c11 ?k11 ?a12 ?l12 ?c12 ?k12 ?a13 ?l13 ?c13 ?k13 ?a14 ?l14 ?c14 ?k14 ?a15 ?l15 ?c15 ?k15 ?a16 ?l16 ?c16 ?k16 ?a17 ?l17 ?c17 ?k17 ?a18 ?l18 ?c18 ?k18 ?a19 ?l19 ?c19 ?k19 ?a20 ?l20 ?c20 ?k20 ?a21 ?l21 ?c21 ?k21 ?a22 ?l22 ?c22 ?k22 ?a23 ?l23 ?c23 ?k23 ?a24 ?l24 ?c24 ?k24 ?a25 ?l25 ?c25 ?k25 ?a26 ?l26 ?c26 ?k26 ?a27 ?l27 ?c27 ?k27 ?a28 ?l28 ?c28 ?k28 ?zb_len ?zb_int ?zb_list ?zb_tuple ?zb_range ?zb_enumerate ?zb_isinstance ?zb_bool ?zb_min ?zb_sum ?zb_set ?zb_ValueError ?zb_repr ?zc_MOST_PRIME ?zc_MOST_NUMBERS ?zc_MOST_SHELVES ?zc_MOST_CELLS ?aR ?aC_BadGround ?xL_BadGround ?sa_BadGround ?ga_BadGround ?gg_BadGround ?nW_BadGround ?iC_BadGround ?kC_BadGround ?eC_BadGround ?tC_BadGround ?hC_BadGround ?sC_BadGround ?cC_BadGround ?mC_BadGround ?rC_BadGround ?vC_BadGround ?tI ?lI ?cI ?kI ?gs ?gt ?aC_BadBatch ?xL_BadBatch ?sa_BadBatch ?ga_BadBatch ?gg_BadBatch ?nW_BadBatch ?iC_BadBatch ?kC_BadBatch ?eC_BadBatch ?tC_BadBatch ?hC_BadBatch ?sC_BadBatch ?cC_BadBatch ?mC_BadBatch ?rC_BadBatch ?vC_BadBatch ?aC_BadShelf ?xL_BadShelf ?sa_BadShelf ?ga_BadShelf ?gg_BadShelf ?nW_BadShelf ?iC_BadShelf ?kC_BadShelf ?eC_BadShelf ?tC_BadShelf ?hC_BadShelf ?sC_BadShelf ?cC_BadShelf ?mC_BadShelf ?rC_BadShelf ?vC_BadShelf ?aC_BadPlace ?xL_BadPlace ?sa_BadPlace ?ga_BadPlace ?gg_BadPlace ?nW_BadPlace ?iC_BadPlace ?kC_BadPlace ?eC_BadPlace ?tC_BadPlace ?hC_BadPlace ?sC_BadPlace ?cC_BadPlace ?mC_BadPlace ?rC_BadPlace ?vC_BadPlace ?qE ?q1 ?q2 ?q3 ?q4
    (case a0 => k_is)
    (case l0 => k_is)
    (case c0 => k_is)
    (case k0 => k_is)
    (case a1 => k_is)
    (case l1 => k_is)
    (case c1 => k_is)
    (case k1 => k_is)
    (case a2 => k_is)
    (case l2 => k_is)
    (case c2 => k_is)
    (case k2 => k_is)
    (case a3 => k_is)
    (case l3 => k_is)
    (case c3 => k_is)
    (case k3 => k_is)
    (case a4 => k_is)
    (case l4 => k_is)
    (case c4 => k_is)
    (case k4 => k_is)
    (case a5 => k_is)
    (case l5 => k_is)
    (case c5 => k_is)
    (case k5 => k_is)
    (case a6 => k_is)
    (case l6 => k_is)
    (case c6 => k_is)
    (case k6 => k_is)
    (case a7 => k_is)
    (case l7 => k_is)
    (case c7 => k_is)
    (case k7 => k_is)
    (case a8 => k_is)
    (case l8 => k_is)
    (case c8 => k_is)
    (case k8 => k_is)
    (case a9 => k_is)
    (case l9 => k_is)
    (case c9 => k_is)
    (case k9 => k_is)
    (case a10 => k_is)
    (case l10 => k_is)
    (case c10 => k_is)
    (case k10 => k_is)
    (case a11 => k_is)
    (case l11 => k_is)
    (case c11 => k_is)
    (case k11 => k_is)
    (case a12 => k_is)
    (case l12 => k_is)
    (case c12 => k_is)
    (case k12 => k_is)
    (case a13 => k_is)
    (case l13 => k_is)
    (case c13 => k_is)
    (case k13 => k_is)
    (case a14 => k_is)
    (case l14 => k_is)
    (case c14 => k_is)
    (case k14 => k_is)
    (case a15 => k_is)
    (case l15 => k_is)
    (case c15 => k_is)
    (case k15 => k_is)
    (case a16 => k_is)
    (case l16 => k_is)
    (case c16 => k_is)
    (case k16 => k_is)
    (case a17 => k_is)
    (case l17 => k_is)
    (case c17 => k_is)
    (case k17 => k_is)
    (case a18 => k_is)
    (case l18 => k_is)
    (case c18 => k_is)
    (case k18 => k_is)
    (case a19 => k_is)
    (case l19 => k_is)
    (case c19 => k_is)
    (case k19 => k_is)
    (case a20 => k_is)
    (case l20 => k_is)
    (case c20 => k_is)
    (case k20 => k_is)
    (case a21 => k_is)
    (case l21 => k_is)
    (case c21 => k_is)
    (case k21 => k_is)
    (case a22 => k_is)
    (case l22 => k_is)
    (case c22 => k_is)
    (case k22 => k_is)
    (case a23 => k_is)
    (case l23 => k_is)
    (case c23 => k_is)
    (case k23 => k_is)
    (case a24 => k_is)
    (case l24 => k_is)
    (case c24 => k_is)
    (case k24 => k_is)
    (case a25 => k_is)
    (case l25 => k_is)
    (case c25 => k_is)
    (case k25 => k_is)
    (case a26 => k_is)
    (case l26 => k_is)
    (case c26 => k_is)
    (case k26 => k_is)
    (case a27 => k_is)
    (case l27 => k_is)
    (case c27 => k_is)
    (case k27 => k_is)
    (case a28 => k_is)
    (case l28 => k_is)
    (case c28 => k_is)
    (case k28 => k_is)
    (case zb_len => k_is)
    (case zb_int => k_is)
    (case zb_list => k_is)
    (case zb_tuple => k_is)
    (case zb_range => k_is)
    (case zb_enumerate => k_is)
    (case zb_isinstance => k_is)
    (case zb_bool => k_is)
    (case zb_min => k_is)
    (case zb_sum => k_is)
    (case zb_set => k_is)
    (case zb_ValueError => k_is)
    (case zb_repr => k_is)
    (case zc_MOST_PRIME => k_is)
    (case zc_MOST_NUMBERS => k_is)
    (case zc_MOST_SHELVES => k_is)
    (case zc_MOST_CELLS => k_is)
    (case aR => k_is)
    (case aC_BadGround => k_is)
    (case xL_BadGround => k_is)
    (case sa_BadGround => k_is)
    (case ga_BadGround => k_is)
    (case gg_BadGround => k_is)
    (case nW_BadGround => k_is)
    (case iC_BadGround => k_is)
    (case kC_BadGround => k_is)
    (case eC_BadGround => k_is)
    (case tC_BadGround => k_is)
    (case hC_BadGround => k_is)
    (case sC_BadGround => first | k_is | kit_is | rfl)
    (case cC_BadGround => k_is)
    (case mC_BadGround => k_is)
    (case rC_BadGround => first | k_is | kit_is | rfl)
    (case vC_BadGround => first | k_is | kit_is | rfl)
    (case tI => k_is)
    (case lI => k_is)
    (case cI => k_is)
    (case kI => k_is)
    (case gs => k_is)
    (case gt => k_is)
    (case aC_BadBatch => k_is)
    (case xL_BadBatch => k_is)
    (case sa_BadBatch => k_is)
    (case ga_BadBatch => k_is)
    (case gg_BadBatch => k_is)
    (case nW_BadBatch => k_is)
    (case iC_BadBatch => k_is)
    (case kC_BadBatch => k_is)
    (case eC_BadBatch => k_is)
    (case tC_BadBatch => k_is)
    (case hC_BadBatch => k_is)
    (case sC_BadBatch => first | k_is | kit_is | rfl)
    (case cC_BadBatch => k_is)
    (case mC_BadBatch => k_is)
    (case rC_BadBatch => first | k_is | kit_is | rfl)
    (case vC_BadBatch => first | k_is | kit_is | rfl)
    (case aC_BadShelf => k_is)
    (case xL_BadShelf => k_is)
    (case sa_BadShelf => k_is)
    (case ga_BadShelf => k_is)
    (case gg_BadShelf => k_is)
    (case nW_BadShelf => k_is)
    (case iC_BadShelf => k_is)
    (case kC_BadShelf => k_is)
    (case eC_BadShelf => k_is)
    (case tC_BadShelf => k_is)
    (case hC_BadShelf => k_is)
    (case sC_BadShelf => first | k_is | kit_is | rfl)
    (case cC_BadShelf => k_is)
    (case mC_BadShelf => k_is)
    (case rC_BadShelf => first | k_is | kit_is | rfl)
    (case vC_BadShelf => first | k_is | kit_is | rfl)
    (case aC_BadPlace => k_is)
    (case xL_BadPlace => k_is)
    (case sa_BadPlace => k_is)
    (case ga_BadPlace => k_is)
    (case gg_BadPlace => k_is)
    (case nW_BadPlace => k_is)
    (case iC_BadPlace => k_is)
    (case kC_BadPlace => k_is)
    (case eC_BadPlace => k_is)
    (case tC_BadPlace => k_is)
    (case hC_BadPlace => k_is)
    (case sC_BadPlace => first | k_is | kit_is | rfl)
    (case cC_BadPlace => k_is)
    (case mC_BadPlace => k_is)
    (case rC_BadPlace => first | k_is | kit_is | rfl)
    (case vC_BadPlace => first | k_is | kit_is | rfl)
    (case qE => kernel_rfl)
    (case q1 => kernel_rfl)
    (case q2 => kernel_rfl)
    (case q3 => kernel_rfl)
    (case q4 => kernel_rfl)
  case Z =>
    intro w H s e s2 z
    exact Lw.cx_no z
