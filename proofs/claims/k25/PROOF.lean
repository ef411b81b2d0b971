import PyProof.Rows.All
import Wide.All
import OpenK.AllK
import Wide.FinOn
import HandS.ForMost
import HandS.Exc
import HandS.ExcOwn
import HandS.ExcInit
import HandS.ExcField
import HandS.ExcIs
import HandS.TryOnly
import HandS.WordsExc
import HandS.IsInst
import HandS.Wide
import HandS.Codes
import KE.KExcIs
import KE.GoesMore
import HandS.Zip
import HandS.Nested
import HandS.EndTab
import HandS.More
import HandS.SetFor
import HandS.Style
import HandS.TupMul
import HandS.TupAny
import HandS.Conv
import KE.KRevSl
import KE.KNestM
import KE.KLam
import HandS.HeadHook4
import PySem.Challenge.RW_firstsafe_k25_points_shifted_and_turned
set_option Elab.async false
set_option linter.all false
set_option maxRecDepth 100000
set_option maxHeartbeats 4000000
namespace Fs
open PySem PySem.Spec PyProof.Rows L2

/-! ### a def as its callers know it -/
structure Ok (P : Program) (w : World) (K : PySem.W.Frag) (mg : Str → Option Value) (base : Heap) (CX : CXT) (x : Str) (k : Nat) (ps : List Str) (sp : Sp) (f : Addr) (fd : FuncData) : Prop where
  ok : FnOk P w K mg base CX k f fd ps sp
  k : PySem.W.keepIn K (.ref f) = true
  b : Binds K fd ps []
  g : mg x = some (.ref f)
structure DefAt (K : PySem.W.Frag) (mg : Str → Option Value) (x : Str) (st : Stmt) (ps : List Str) (f : Addr) (fd : FuncData) : Prop where
  F : Fun K x x st f fd
  b : Binds K fd ps []
  g : mg x = some (.ref f)
theorem DefAt.mk' {P : Program} {w : World} {K : PySem.W.Frag} {mg : Str → Option Value} {base : Heap} {CX : CXT} {x : Str} {st : Stmt} {k : Nat} {ps : List Str} {sp : Sp} {f : Addr} {fd : FuncData} (D : DefAt K mg x st ps f fd)
    (h : FnOk P w K mg base CX k f fd ps sp) : Ok P w K mg base CX x k ps sp f fd := ⟨h, D.F.kp, D.b, D.g⟩

/-- a word between two statements -/
def Mid (P : Prop) : Prop := False ∨ P
theorem Mid.mk {P : Prop} (h : P) : Mid P := .inr h
theorem Mid.out {P : Prop} (h : Mid P) : P := h.elim (fun z => z.elim) id

/-! ### operators -/
def CMulB (i j : Int) : Prop := IntMulOk i j
theorem op_mulB {X : Cx} : OpR X (binaryOp .Mult) (rI CMulB fun i j => .int (i * j)) := opI fun _ _ _ _ _ _ _ hc q => mul_int q hc
theorem mulL {i j : Int} (h : -18446744073709551616 < i) (h2 : i < 18446744073709551616) : CMulB i j := .of_left (intBits_le_64 (by omega) (by omega))
theorem mulR {i j : Int} (h : -18446744073709551616 < j) (h2 : j < 18446744073709551616) : CMulB i j := .of_right (intBits_le_64 (by omega) (by omega))
theorem dvW {i j : Int} (h : 0 < j) (h2 : j < 18446744073709551616) : CDivW i j := wide_div (b := 64) h (by omega) (by decide) (by decide)

/-! ### heaps -/
/-- all but what stands at p and l is as it was -/
def But (p l : Addr) (H H' : Hp) : Prop := ∀ b o, b ≠ p → b ≠ l → H b = some o → H' b = some o
theorem But.refl (p l : Addr) (H : Hp) : But p l H H := fun _ _ _ _ h => h
theorem But.trans {p l : Addr} {H H1 H2 : Hp} (a : But p l H H1) (b : But p l H1 H2) : But p l H H2 := fun c o h1 h2 h => b c o h1 h2 (a c o h1 h2 h)
theorem Same.but {p l : Addr} {H H' : Hp} (a : Same H H') : But p l H H' := fun b o _ _ h => a b o h
theorem same_new {H : Hp} {p : Addr} {o : HO} (h : H p = none) : Same H (upd H p o) := fun b x e => by
  rw [upd_ne (ne_of_none e h)]
  exact e
theorem but_p {p l : Addr} {H : Hp} {o : HO} : But p l H (upd H p o) := fun b x h1 _ e => by
  rw [upd_ne h1]
  exact e
theorem but_l {p l : Addr} {H : Hp} {o : HO} : But p l H (upd H l o) := fun b x _ h1 e => by
  rw [upd_ne h1]
  exact e
theorem But.seq {K : PySem.W.Frag} {p l a : Addr} {H H' : Hp} {xs : List V} (e : But p l H H') (h1 : a ≠ p) (h2 : a ≠ l) (h : SqL K H a xs) : SqL K H' a xs := by
  rcases h with (h | ⟨o, h⟩) | h
  · exact .inl (.inl (e _ _ h1 h2 h))
  · exact .inl (.inr ⟨o, e _ _ h1 h2 h⟩)
  · exact .inr h
theorem But.seqT {K : PySem.W.Frag} {p l a : Addr} {H H' : Hp} {xs : List V} (e : But p l H H') (h1 : a ≠ p) (h2 : a ≠ l) (h : SqT K H a xs) : SqT K H' a xs := by
  rcases h with (h | ⟨o, h⟩) | h
  · exact .inl (.inl (e _ _ h1 h2 h))
  · exact .inl (.inr ⟨o, e _ _ h1 h2 h⟩)
  · exact .inr h
theorem Same.seqT {K : PySem.W.Frag} {H H' : Hp} {a : Addr} {xs : List V} (e : Same H H') (h : SqT K H a xs) : SqT K H' a xs := by
  rcases h with (h | ⟨o, h⟩) | h
  · exact .inl (.inl (e _ _ h))
  · exact .inl (.inr ⟨o, e _ _ h⟩)
  · exact .inr h

/-! ### the pool of drawn numbers -/
/-- a pool stands at p: two numbers, and the list at l of what is left of the script -/
def PoolAt (H : Hp) (p l : Addr) : Prop := ∃ (n m : Int) (xs : List Int), H p = some (.lst [.int n, .int m, .ref l]) ∧ H l = some (.lst (xs.map V.int)) ∧ p ≠ l ∧ 0 ≤ n ∧ 0 ≤ m ∧ m < 2147483648 ∧ xs.length ≤ 100
theorem PoolAt.same {H H' : Hp} {p l : Addr} (h : PoolAt H p l) (s : Same H H') : PoolAt H' p l := by
  obtain ⟨n, m, xs, h1, h2, r⟩ := h
  exact ⟨n, m, xs, s _ _ h1, s _ _ h2, r⟩
theorem PoolAt.ne {H : Hp} {p l t : Addr} (h : PoolAt H p l) (ht : H t = none) : t ≠ p ∧ t ≠ l := by
  obtain ⟨n, m, xs, h1, h2, r⟩ := h
  exact ⟨(ne_of_none h1 ht).symm, (ne_of_none h2 ht).symm⟩
def spPool (K : PySem.W.Frag) : Sp := fun vs H Q _ => ∃ (a : Addr) (ns : List Int), vs = [.ref a] ∧ SqL K H a (ns.map V.int) ∧ ns.length ≤ 63 ∧
  ∀ (H' : Hp) (p l : Addr), Same H H' → H p = none → H l = none → PoolAt H' p l → Q (.ref p) H'
def spDraw : Sp := fun vs H Q _ => ∃ (p l : Addr) (many : Int), vs = [.ref p, .int many] ∧ PoolAt H p l ∧ 1 ≤ many ∧ many < 4611686018427387904 ∧
  ∀ (v : Int) (H' : Hp), 0 ≤ v → v < many → PoolAt H' p l → But p l H H' → Q (.int v) H'
def spPick (K : PySem.W.Frag) : Sp := fun vs H Q _ => ∃ (p l t : Addr) (xs : List V), vs = [.ref p, .ref t] ∧ PoolAt H p l ∧ t ≠ p ∧ t ≠ l ∧ SqL K H t xs ∧ 1 ≤ xs.length ∧ xs.length ≤ 1000 ∧
  ∀ (x : V) (H' : Hp), x ∈ xs → PoolAt H' p l → But p l H H' → Q x H'

/-! ### whole numbers -/
/-- values whose kind is told: no number, a truth value, a number, a text, a tuple, a list -/
def Kn (K : PySem.W.Frag) (H : Hp) (v : V) : Prop := v = .non ∨ (∃ b, v = .bl b) ∨ (∃ i, v = .int i) ∨ (∃ s, v = .str s) ∨ (∃ a xs, v = .ref a ∧ H a = some (.tup xs)) ∨ ∃ a xs, v = .ref a ∧ H a = some (.lst xs)
def wholeV : V → Bool
  | .int _ => true
  | _ => false
def spWhole (K : PySem.W.Frag) : Sp := fun vs H Q _ => ∃ v, vs = [v] ∧ Kn K H v ∧ Q (.bl (wholeV v)) H
/-- isinstance(v, int), isinstance(v, bool) -/
def isIntV : V → Bool
  | .int _ => true
  | .bl _ => true
  | _ => false
def isBoolV : V → Bool
  | .bl _ => true
  | _ => false
theorem isi_int {K : PySem.W.Frag} {H : Hp} {v : V} (h : Kn K H v) : ∃ t, TyX K H v t ∧ PySem.W.kitOne K t (.type "int") = some (isIntV v) ∧ PySem.W.kitOne K t (.type "bool") = some (isBoolV v) := by
  rcases h with rfl | ⟨b, rfl⟩ | ⟨i, rfl⟩ | ⟨s, rfl⟩ | ⟨a, xs, rfl, ha⟩ | ⟨a, xs, rfl, ha⟩
  · exact ⟨_, .base .non, kit_ty (r := false) (by decide +kernel), kit_ty (r := false) (by decide +kernel)⟩
  · exact ⟨_, .base (.bl _), kit_ty (r := true) (by decide +kernel), kit_ty (r := true) (by decide +kernel)⟩
  · exact ⟨_, .base (.int _), kit_ty (r := true) (by decide +kernel), kit_ty (r := false) (by decide +kernel)⟩
  · exact ⟨_, .base (.str _), kit_ty (r := false) (by decide +kernel), kit_ty (r := false) (by decide +kernel)⟩
  · exact ⟨_, .base (.tup ha), kit_ty (r := false) (by decide +kernel), kit_ty (r := false) (by decide +kernel)⟩
  · exact ⟨_, .base (.lst ha), kit_ty (r := false) (by decide +kernel), kit_ty (r := false) (by decide +kernel)⟩

/-! ### lists -/
theorem list_new {α : Type} : ∀ xs : List α, xs = [] ∨ ∃ x r, xs = x :: r
  | [] => .inl rfl
  | x :: r => .inr ⟨x, r, rfl⟩
theorem dp_ints {K : PySem.W.Frag} {H : Hp} : ∀ xs : List Int, DpAll K H (xs.map V.int) (xs.map PyData.int)
  | [] => .nil
  | _ :: r => .cons (.int _) (dp_ints r)
theorem shaped_nil : SeqAt.shaped (.list []) = true := by decide +kernel
theorem can_ints : ∀ xs : List Int, PyData.canLayAll0 (xs.map PyData.int) = true
  | [] => by simp [PyData.canLayAll0]
  | x :: r => by
    rw [List.map_cons, PyData.canLayAll0, can_ints r]
    rfl
theorem depth_ints : ∀ xs : List Int, PyData.depthAll (xs.map PyData.int) ≤ 1
  | [] => by simp [PyData.depthAll]
  | x :: r => by
    have h := depth_ints r
    rw [List.map_cons, PyData.depthAll]
    simp only [PyData.depth]
    omega
theorem shaped_ints (xs : List Int) : SeqAt.shaped (.list (xs.map PyData.int)) = true := by
  have h1 : (PyData.list (xs.map PyData.int)).canLay0 = true := by
    rw [PyData.canLay0]
    exact can_ints xs
  have h2 := depth_ints xs
  unfold SeqAt.shaped
  rw [h1]
  refine decide_eq_true ?_
  simp only [PyData.depth]
  omega
theorem shaped_intsT (xs : List Int) : SeqAt.shaped (.tuple (xs.map PyData.int)) = true := by
  have h1 : (PyData.tuple (xs.map PyData.int)).canLay0 = true := by
    rw [PyData.canLay0]
    exact can_ints xs
  have h2 := depth_ints xs
  unfold SeqAt.shaped
  rw [h1]
  refine decide_eq_true ?_
  simp only [PyData.depth]
  omega
theorem eqv_nil_nil : (!PyData.eqv (.list (([] : List Int).map PyData.int)) (.list [])) = false := by decide +kernel
theorem eqv_cons_nil {x : Int} {r : List Int} : (!PyData.eqv (.list ((x :: r).map PyData.int)) (.list [])) = true := by
  rw [List.map_cons, PyData.eqv, PyData.eqvAll]
  rfl
theorem cut_one (xs : List V) : cutV xs (some 1) none = xs.drop 1 := by
  have h1 : HT.sIx xs.length 0 (some 1) = min 1 xs.length := HT.sIx_nat xs.length 0 1
  unfold cutV
  rw [h1, HT.sIx_none]
  rcases list_new xs with rfl | ⟨x, r, rfl⟩
  · rfl
  · have h2 : min 1 (x :: r).length = 1 := by
      rw [List.length_cons]
      omega
    rw [h2, List.length_cons]
    show List.take (r.length + 1 - 1) r = r
    rw [Nat.add_sub_cancel, List.take_length]
end Fs

namespace Fs
open PySem PySem.Spec PyProof.Rows L2
/-! ### primes -/
def NoDiv (n : Int) : Prop := ∀ d : Int, 2 ≤ d → d * d ≤ n → n % d ≠ 0
def PrimeV : V → Prop
  | .int n => 2 ≤ n ∧ n ≤ 65521 ∧ NoDiv n
  | _ => False
theorem sq_lt {d n : Int} (h : d * d ≤ n) (hn : n < 65536) (h0 : 0 ≤ d) : d < 256 := by
  refine Int.not_le.mp fun q => ?_
  have := Int.mul_le_mul q q (by omega) h0
  omega
theorem sq_le {d e : Int} (h0 : 0 ≤ e) (h : e ≤ d) : e * e ≤ d * d := Int.mul_le_mul h h h0 (by omega)
theorem mod_of_sub {n d : Int} : n - n / d * d = n % d := by
  rw [Int.emod_def, Int.mul_comm]
def betV (lo hi : Int) : V → Bool
  | .int n => decide (lo ≤ n) && decide (n ≤ hi)
  | _ => false
def spBetween (K : PySem.W.Frag) : Sp := fun vs H Q _ => ∃ (v : V) (lo hi : Int), vs = [v, .int lo, .int hi] ∧ Kn K H v ∧ Q (.bl (betV lo hi v)) H
def spIsPrime (K : PySem.W.Frag) : Sp := fun vs H Q _ => ∃ (v : V), vs = [v] ∧ Kn K H v ∧ ∀ b : Bool, (b = true ↔ PrimeV v) → Q (.bl b) H
theorem kn_int {K : PySem.W.Frag} {H : Hp} (i : Int) : Kn K H (.int i) := .inr (.inr (.inl ⟨i, rfl⟩))
theorem kn_bl {K : PySem.W.Frag} {H : Hp} (i : Bool) : Kn K H (.bl i) := .inr (.inl ⟨i, rfl⟩)
theorem kn_str {K : PySem.W.Frag} {H : Hp} (i : Str) : Kn K H (.str i) := .inr (.inr (.inr (.inl ⟨i, rfl⟩)))
theorem kn_tup {K : PySem.W.Frag} {H : Hp} {a : Addr} {xs : List V} (h : H a = some (.tup xs)) : Kn K H (.ref a) := .inr (.inr (.inr (.inr (.inl ⟨a, xs, rfl, h⟩))))
theorem Kn.same {K : PySem.W.Frag} {H H' : Hp} {v : V} (h : Kn K H v) (s : Same H H') : Kn K H' v := by
  rcases h with h | h | h | h | ⟨a, xs, h1, h2⟩ | ⟨a, xs, h1, h2⟩
  · exact .inl h
  · exact .inr (.inl h)
  · exact .inr (.inr (.inl h))
  · exact .inr (.inr (.inr (.inl h)))
  · exact .inr (.inr (.inr (.inr (.inl ⟨a, xs, h1, s _ _ h2⟩))))
  · exact .inr (.inr (.inr (.inr (.inr ⟨a, xs, h1, s _ _ h2⟩))))
end Fs

namespace Fs
open PySem PySem.Spec PyProof.Rows L2
/-! ### errors of the package, made and caught -/
/-- isinstance(e, c), e the caught exception at a of the class at C, its dict at d -/
def rIsD (K : PySem.W.Frag) (C a : Addr) (cls : Value) (d : Option Addr) : List V → Hp → VK → Prop := fun xs H Q => ∃ (c : V) (cv : Value) (b : Bool) (dd : Addr) (fs : List (Str × V)), xs = [.ref a, c] ∧ (∀ u, RelV c u → u = cv) ∧ cls = .ref C ∧ d = some dd ∧ H dd = some (.xd fs) ∧ PySem.W.kitOne K (.ref C) cv = some b ∧ Q (.bl b) H
theorem isSome_of_hasDict {K : PySem.W.Frag} {C : Addr} (h : PySem.W.hasDictIn K C = true) : (PySem.W.clsIn K C).isSome = true := by
  obtain ⟨cd, hc, _⟩ := PySem.W.any_some h
  rw [hc]
  rfl
theorem call_isD {X : Cx} {a C : Addr} {oe : Obj} {cls : Value} {d : Option Addr} {pn : List (Addr × Obj)} (T : ExcC X.K C) (hz : Zc cls d oe) (hf : ∃ vs, oe.data = .fields vs) : CallR (X.suite a ((a, oe) :: pn)) (.builtin "isinstance") (rIsD X.K C a cls d) := by
  intro pins s σ H xs us Q I r h
  obtain ⟨c, cv, b, dd, fs, rfl, hcv, rfl, rfl, hd, e, q⟩ := h
  cases r with
  | cons rx rr =>
    cases rr with
    | cons rt rr =>
      cases rr
      cases rx
      have ec := hcv _ rt
      subst ec
      obtain ⟨hget, _⟩ := I.pin (a, oe) (List.mem_append.mpr (.inl List.mem_cons_self))
      obtain ⟨vs, hv⟩ := hf
      obtain ⟨mA, hns, hr⟩ : ObjOk X.prog X.w H s.heap dd (.xd fs) := I.hok dd _ hd
      obtain ⟨od, ho, hl⟩ := lookIn_ns hns
      have J : PySem.W.InstAt s.heap a oe C (some od) := ⟨hget, hz.1, by unfold PySem.W.notCls; rw [hv] <;> rfl, by rw [hz.2]; exact ho⟩
      exact PySem.W.kia_one (PySem.W.kitx_exc (isSome_of_hasDict T.hd) T.hg T.hk T.hs T.ha T.hn T.ht T.hm) I.kIn J e (fun z => nomatch z) fun tk => ⟨.bl b, H, I.kept (t' := tk) fun _ _ z => z, rfl, q⟩
/-- what the written part says of an error class x at C; fI: its __init__, CR: the base class of all -/
structure ErrC (K : PySem.W.Frag) (mg : Str → Option Value) (x : Str) (C fI CR : Addr) : Prop where
  T : OexC K C
  iC : PySem.W.findIn K (.ref C) "__init__" = some (some (.ref fI))
  tI : PySem.W.typeIn K (.ref fI) = some (.type "function")
  g : mg x = some (.ref C)
  nW : PySem.W.findIn K (.ref C) "what" = some none
  X : ExcC K C
  XF : XfC K C
  te : PySem.W.exmOne K (.ref C) (.ref C) = some true
  isR : PySem.W.kitOne K (.ref C) (.ref CR) = some true
  isV : PySem.W.kitOne K (.ref C) (.type "ValueError") = some true
/-- the __init__ of the base class: self.what = what -/
def spErrInit (K : PySem.W.Frag) : Sp := fun vs H Q _ => ∃ (a C : Addr) (y : V), vs = [.ref a, y] ∧ OexC K C ∧ PySem.W.findIn K (.ref C) "what" = some none ∧ H a = some (exo a C none) ∧
  ∀ dx, H dx = none → dx ≠ a → Q .non (upd (upd H dx (exd dx [("what", y)])) a (exo a C (some dx)))
theorem heap_made {H : Hp} {a d : Addr} {o1 o2 o3 o4 : HO} (ha : H a = none) (hd : d ≠ a) : upd (del (upd (upd (upd H a o1) d o2) a o3) a) d o4 = upd H d o4 := by
  funext b
  by_cases h1 : b = d
  · subst h1
    rw [upd_same, upd_same]
  · rw [upd_ne h1, upd_ne h1]
    by_cases h2 : b = a
    · subst h2
      rw [del_same, ha]
    · rw [del_ne h2, upd_ne h2, upd_ne h1, upd_ne h2]
/-- the reading of X(e) is done by this: an error with its dict, new -/
theorem made_err {K : PySem.W.Frag} {mg : Str → Option Value} {x : Str} {C fI CR : Addr} (E : ErrC K mg x C fI CR) {H : Hp} {y : V} {Q : XK} (q : ∀ d, H d = none → Q (.ref C) (some d) (upd H d (.xd [("what", y)]))) :
    [y].length ≤ 1000 ∧ ∀ a, H a = none → spErrInit K (.ref a :: ([y] ++ [])) (upd H a (exo a C none))
      (fun v H2 => v = .non ∧ ∃ (d : Addr) (fs : List (Str × V)), H2 a = some (exo a C (some d)) ∧ H2 d = some (exd d fs) ∧ H d = none ∧ Q (.ref C) (some d) (upd (del H2 a) d (.xd fs))) (fun _ _ _ => False) := by
  refine ⟨by show 1 ≤ 1000; decide, fun a ha => ⟨a, C, y, rfl, E.T, E.nW, upd_same, fun dx hdx hne => ⟨rfl, dx, [("what", y)], upd_same, ?_, ?_, ?_⟩⟩⟩
  · rw [upd_ne hne, upd_same]
  · rw [upd_ne hne] at hdx
    exact hdx
  · rw [heap_made ha hne]
    rw [upd_ne hne] at hdx
    exact q dx hdx
/-- the suite of the laws' try: the pair ('refused', e.what) -/
def tSuiteR (K : PySem.W.Frag) (C CR : Addr) (i : Nat) : Addr → Value → Option Addr → TS := fun a cls d =>
  tRet (tIf (tAnd (tB (tCB (rIsD K C a cls d) (tCons (tVar i) (tCons (tC (.ref CR)) tNil)))) (tB (tCB (rIsD K C a cls d) (tCons (tVar i) (tCons (tC (.ty "ValueError")) tNil)))))
    (tTup (tCons (tC (.str "refused")) (tCons (tXf a cls d C "what" (tVar i)) tNil))) (tTup (tCons (tC (.str "odd")) (tCons (tC (.int 0)) tNil))))
theorem suiteR {K : PySem.W.Frag} {mg : Str → Option Value} {x : Str} {C fI CR a d : Addr} (E : ErrC K mg x C fI CR) {D : Ends} {σ : L2.St} {H : Hp} {i : Nat} {y : V} (hi : σ[i]? = some (some (V.ref a))) (hd : H d = some (.xd [("what", y)]))
    (q : ∀ p, H p = none → D.rt (.ref p) (upd H p (.tup [.str "refused", y]))) : tSuiteR K C CR i a (.ref C) (some d) D σ H := by
  refine ⟨_, hi, _, _, true, d, _, rfl, fun u r => r, rfl, rfl, hd, E.isR, true, rfl, ?_⟩
  refine iteT ?_
  refine ⟨_, hi, _, _, true, d, _, rfl, fun u r => r, rfl, rfl, hd, E.isV, true, rfl, ?_⟩
  refine iteT ?_
  refine ⟨_, hi, rfl, rfl, d, _, y, rfl, hd, rfl, ?_⟩
  exact ⟨by show 2 ≤ sizeLine; decide, fun p hp => q p hp⟩
end Fs

namespace Fs
open PySem PySem.Spec PyProof.Rows L2
/-! ### the inverse of a number modulo a prime -/
theorem nodiv_small {n : Int} (h : n < 65536) (hd : ∀ d : _root_.Fin 256, 2 ≤ d.val → d.val * d.val ≤ n.toNat → n % (d.val : Int) ≠ 0) : NoDiv n := fun d d2 hdn => by
  have h1 := sq_lt hdn h (by omega)
  have e : ((d.toNat : Nat) : Int) = d := by omega
  have e2 : ((d.toNat * d.toNat : Nat) : Int) = d * d := by rw [Int.natCast_mul, e]
  have z := hd ⟨d.toNat, by omega⟩ (by show 2 ≤ d.toNat; omega) (by show d.toNat * d.toNat ≤ n.toNat; omega)
  rw [← e]
  exact z
theorem prime_gcd {p r : Int} (p2 : 2 ≤ p) (hp : NoDiv p) (r0 : 0 < r) (r1 : r < p) : Int.gcd p r = 1 := by
  have g1 : ((Int.gcd p r : Nat) : Int) ∣ p := Int.gcd_dvd_left ..
  have g2 : ((Int.gcd p r : Nat) : Int) ∣ r := Int.gcd_dvd_right ..
  have g0 : 0 < Int.gcd p r := Int.gcd_pos_of_ne_zero_right _ (by omega)
  generalize Int.gcd p r = g at g1 g2 g0
  by_cases h : g = 1
  · exact h
  · exfalso
    have gr : (g : Int) ≤ r := Int.le_of_dvd r0 g2
    obtain ⟨q, hq⟩ := g1
    have q0 : 0 < q := by
      refine Int.not_le.mp fun z => ?_
      have := Int.mul_nonpos_of_nonneg_of_nonpos (show (0 : Int) ≤ (g : Int) by omega) z
      omega
    have q2 : 2 ≤ q := by
      refine Int.not_lt.mp fun z => ?_
      have e : q = 1 := by omega
      rw [e, Int.mul_one] at hq
      omega
    rcases Int.le_total (g : Int) q with hl | hl
    · have := Int.mul_le_mul_of_nonneg_left hl (show (0 : Int) ≤ (g : Int) by omega)
      refine hp g (by omega) (by omega) ?_
      rw [hq]
      exact Int.mul_emod_right _ _
    · have := Int.mul_le_mul_of_nonneg_right hl (show (0 : Int) ≤ q by omega)
      refine hp q q2 (by omega) ?_
      rw [hq]
      exact Int.mul_emod_left _ _
/-- what holds between the turns of Euclid's loop -/
structure Euc (a p left rest before found : Int) : Prop where
  r0 : 0 < rest
  r1 : rest < left
  r2 : left ≤ p
  co : Int.gcd left rest = 1
  dl : p ∣ before * a - left
  dr : p ∣ found * a - rest
theorem Euc.start {a p : Int} (p2 : 2 ≤ p) (hp : NoDiv p) (h : a % p ≠ 0) : Euc a p p (a % p) 0 1 where
  r0 := by have := Int.emod_nonneg a (show p ≠ 0 by omega); omega
  r1 := Int.emod_lt_of_pos a (by omega)
  r2 := Int.le_refl p
  co := prime_gcd p2 hp (by have := Int.emod_nonneg a (show p ≠ 0 by omega); omega) (Int.emod_lt_of_pos a (by omega))
  dl := ⟨-1, by omega⟩
  dr := ⟨a / p, by have := Int.emod_add_mul_ediv a p; omega⟩
theorem Euc.step {a p left rest before found : Int} (E : Euc a p left rest before found) (h : 1 < rest) : Euc a p rest (left - left / rest * rest) found (before - left / rest * found) := by
  have e : left - left / rest * rest = left % rest := mod_of_sub
  have m0 := Int.emod_nonneg left (show rest ≠ 0 by omega)
  have m1 := Int.emod_lt_of_pos left (show 0 < rest by omega)
  have co : Int.gcd rest (left % rest) = 1 := by
    rw [← e, Int.gcd_sub_mul_right_right, Int.gcd_comm, E.co]
  refine ⟨?_, by omega, by have := E.r1; have := E.r2; omega, by rw [e]; exact co, E.dr, ?_⟩
  · rw [e]
    refine Int.not_le.mp fun z => ?_
    have z2 : left % rest = 0 := by omega
    rw [z2, Int.gcd_zero_right] at co
    omega
  · obtain ⟨x, hx⟩ := E.dl
    obtain ⟨y, hy⟩ := E.dr
    refine ⟨x - left / rest * y, ?_⟩
    have e1 : (before - left / rest * found) * a = before * a - left / rest * (found * a) := by rw [Int.sub_mul, Int.mul_assoc]
    have e2 : found * a = p * y + rest := by omega
    have e3 : before * a = p * x + left := by omega
    rw [e1, e2, e3, Int.mul_sub, Int.mul_add, ← Int.mul_assoc p, Int.mul_comm p (left / rest), Int.mul_assoc]
    omega
theorem Euc.done {a p left rest before found : Int} (E : Euc a p left rest before found) (p2 : 2 ≤ p) (h : ¬ 1 < rest) : (found % p * a - 1) % p = 0 := by
  have e : rest = 1 := by have := E.r0; omega
  obtain ⟨y, hy⟩ := E.dr
  have e2 : found * a = p * y + 1 := by omega
  have e3 := Int.emod_add_mul_ediv found p
  have e4 : found % p = found - p * (found / p) := by omega
  rw [e4, Int.sub_mul, e2]
  have e5 : p * y + 1 - p * (found / p) * a - 1 = p * (y - found / p * a) := by
    rw [Int.mul_sub, Int.mul_assoc]
    omega
  rw [e5]
  exact Int.mul_emod_right _ _
def spInverse (C : Addr) : Sp := fun vs H Q E => ∃ (a p : Int), vs = [.int a, .int p] ∧ 2 ≤ p ∧ p ≤ 65521 ∧ NoDiv p ∧
  (a % p = 0 → ∀ d : Addr, H d = none → E (.ref C) (some d) (upd H d (.xd [("what", .int a)]))) ∧
  (a % p ≠ 0 → ∀ b : Int, 0 ≤ b → b < p → (b * a - 1) % p = 0 → ∀ H', Same H H' → Q (.int b) H')

/-! ### binomials -/
def bin : Nat → Nat → Int
  | _, 0 => 1
  | 0, _ + 1 => 0
  | n + 1, k + 1 => bin n k + bin n (k + 1)
theorem bin_zero (n : Nat) : bin n 0 = 1 := by cases n <;> rfl
theorem bin_above : ∀ (n k : Nat), n < k → bin n k = 0
  | 0, 0, h => by omega
  | 0, _ + 1, _ => rfl
  | _ + 1, 0, h => by omega
  | n + 1, k + 1, h => by
    show bin n k + bin n (k + 1) = 0
    rw [bin_above n k (by omega), bin_above n (k + 1) (by omega)]
    rfl
theorem bin_self : ∀ n : Nat, bin n n = 1
  | 0 => rfl
  | n + 1 => by
    show bin n n + bin n (n + 1) = 1
    rw [bin_self n, bin_above n (n + 1) (by omega)]
    rfl
theorem bin_step : ∀ (n k : Nat), bin n (k + 1) * ((k : Int) + 1) = bin n k * ((n : Int) - (k : Int))
  | 0, 0 => by
    show (0 : Int) * _ = 1 * _
    omega
  | 0, k + 1 => by
    show (0 : Int) * _ = 0 * _
    rw [Int.zero_mul, Int.zero_mul]
  | n + 1, 0 => by
    have h := bin_step n 0
    show (bin n 0 + bin n 1) * _ = bin (n + 1) 0 * _
    rw [bin_zero, bin_zero] at *
    have h2 : bin n (0 + 1) = bin n 1 := rfl
    rw [h2] at h
    omega
  | n + 1, k + 1 => by
    have h1 := bin_step n k
    have h2 := bin_step n (k + 1)
    show (bin n (k + 1) + bin n (k + 1 + 1)) * (((k + 1 : Nat) : Int) + 1) = (bin n k + bin n (k + 1)) * (((n + 1 : Nat) : Int) - ((k + 1 : Nat) : Int))
    have e1 : ((k + 1 : Nat) : Int) = (k : Int) + 1 := by omega
    have e2 : ((n + 1 : Nat) : Int) = (n : Int) + 1 := by omega
    rw [e1] at h2 ⊢
    rw [e2, Int.add_mul, h2, Int.add_mul, show (n : Int) + 1 - ((k : Int) + 1) = (n : Int) - (k : Int) by omega, ← h1, Int.mul_sub, Int.mul_sub, Int.mul_add, Int.mul_add]
    omega
theorem bin_next {n k : Nat} (h : k < n) : bin n k * ((n : Int) - (k : Int)) / ((k : Int) + 1) = bin n (k + 1) := by
  rw [← bin_step]
  exact Int.mul_ediv_cancel _ (by omega)
def spChoose (K : PySem.W.Frag) : Sp := fun vs H Q _ => ∃ (n j : Nat) (p : Int), vs = [.int n, .int j, .int p] ∧ n ≤ 99 ∧ 2 ≤ p ∧ ∀ H', Same H H' → Q (.int (bin n j % p)) H'
def spWays : Sp := fun vs H Q _ => ∃ (n j : Nat), vs = [.int n, .int j] ∧ n ≤ 99 ∧ j ≤ 1000 ∧ Q (.int (bin n j)) H
/-- a row of the triangle modulo p -/
def triRow (p : Int) (n : Nat) : List Int := (List.range (n + 1)).map fun k => bin n k % p
def triIn (p : Int) (n i : Nat) : List Int := (List.range i).map fun k => bin (n + 1) (k + 1) % p
theorem triRow_len (p : Int) (n : Nat) : (triRow p n).length = n + 1 := by
  unfold triRow
  rw [List.length_map, List.length_range]
theorem triRow_get {p : Int} {n k : Nat} (h : k ≤ n) : (triRow p n)[k]? = some (bin n k % p) := by
  unfold triRow
  rw [List.getElem?_map, List.getElem?_range (by omega)]
  rfl
theorem triIn_len (p : Int) (n i : Nat) : (triIn p n i).length = i := by
  unfold triIn
  rw [List.length_map, List.length_range]
theorem triIn_succ (p : Int) (n i : Nat) : triIn p n (i + 1) = triIn p n i ++ [(bin n i % p + bin n (i + 1) % p) % p] := by
  unfold triIn
  rw [List.range_succ, List.map_append]
  show _ ++ [(bin n i + bin n (i + 1)) % p] = _
  rw [Int.add_emod]
theorem triRow_next {p : Int} (h : 2 ≤ p) (n : Nat) : [(1 : Int)] ++ triIn p n n ++ [1] = triRow p (n + 1) := by
  have o : (1 : Int) % p = 1 := Int.emod_eq_of_lt (by omega) (by omega)
  unfold triRow triIn
  rw [List.range_succ_eq_map, List.map_cons, bin_zero, o, List.range_succ, List.map_append, List.map_append, List.map_map]
  show (1 : Int) :: ((List.range n).map _ ++ [1]) = 1 :: ((List.range n).map _ ++ [bin (n + 1) (n + 1) % p])
  rw [bin_self, o]
  rfl
theorem triRow_zero {p : Int} (h : 2 ≤ p) : [(1 : Int)] = triRow p 0 := by
  have o : (1 : Int) % p = 1 := Int.emod_eq_of_lt (by omega) (by omega)
  show [(1 : Int)] = [bin 0 0 % p]
  rw [bin_zero, o]
end Fs
namespace Fs
open PySem PySem.Spec PyProof.Rows L2
/-- a comprehension over zip of two lists, n the lesser length -/
theorem lc_zipN {K : PySem.W.Frag} {a b : Addr} {xs ys : List V} {g : TG} {tt : TT} {te : TE} {vs : List Nat} {σ : L2.St} {H1 : Hp} {D : Addr} {Qd : Hp → Prop} (n : Nat) (hx : n ≤ xs.length) (hy : n ≤ ys.length) (hn : n = xs.length ∨ n = ys.length) (Pv : Nat → Hp → Prop) (h0 : Pv 0 (upd H1 D (.lst [])))
    (hq : ∀ i H, Pv i H → SqL K H a xs ∧ SqL K H b ys)
    (hs : ∀ i x y T H, xs[i]? = some x → ys[i]? = some y → Pv i H → H T = none → g (.ref T) (wipe σ vs) (upd H T (.tup [x, y])) fun σ2 H2 => wipe σ2 vs = wipe σ vs ∧ tt σ2 H2 fun k H3 =>
      if k = true then te σ2 H3 fun z H4 => ∃ acc, H4 D = some (.lst acc) ∧ acc.length < sizeLine ∧ Pv (i + 1) (upd H4 D (.lst (acc ++ [z]))) else Pv (i + 1) H3) (hd : ∀ H, Pv n H → Qd H) :
    ∃ W : Nat → Nat → Hp → Prop, (∃ m, W 0 m (upd H1 D (.lst []))) ∧ ∀ i m H, W i m H →
      ((Itz K a b).stop i H ∧ Qd H) ∨ ((Itz K a b).go i H ∧ ∃ Nx : Hp → Prop, (∀ H', Nx H' → ∃ m', m' < m ∧ W (i + 1) m' H') ∧ ∀ x H', (Itz K a b).yld i H x H' → g x (wipe σ vs) H' fun σ2 H2 => wipe σ2 vs = wipe σ vs ∧ tt σ2 H2 fun k H3 =>
        if k = true then te σ2 H3 fun z H4 => ∃ acc, H4 D = some (.lst acc) ∧ acc.length < sizeLine ∧ Nx (upd H4 D (.lst (acc ++ [z]))) else Nx H3) := by
  refine ⟨fun i m H => m = n - i ∧ i ≤ n ∧ Pv i H, ⟨n, rfl, Nat.zero_le _, h0⟩, ?_⟩
  rintro i m H ⟨rfl, hi, p⟩
  obtain ⟨qx, qy⟩ := hq i H p
  by_cases hlt : i < n
  · refine .inr ⟨⟨xs, ys, _, _, qx, qy, List.getElem?_eq_getElem (Nat.lt_of_lt_of_le hlt hx), List.getElem?_eq_getElem (Nat.lt_of_lt_of_le hlt hy)⟩, Pv (i + 1), fun H' p' => ⟨n - (i + 1), by omega, rfl, hlt, p'⟩, fun v H' y => ?_⟩
    obtain ⟨T, x', y', rfl, hT, rfl, f1, f2⟩ := y
    exact hs i x' y' T H (f1 xs qx) (f2 ys qy) p hT
  · have e : i = n := by omega
    subst e
    refine .inl ⟨⟨xs, ys, qx, qy, ?_⟩, hd H p⟩
    rcases hn with h | h
    · exact .inl (by omega)
    · exact .inr (by omega)
theorem shaped_ref (i : Int) : SeqAt.shaped (.tuple [.str "refused", .int i]) = true := by
  have h0 : PyData.strOk "refused" = true := by decide +kernel
  have h1 : (PyData.tuple [.str "refused", .int i]).canLay0 = true := by
    simp [PyData.canLay0, PyData.canLayAll0, h0]
  have h2 : (PyData.tuple [.str "refused", .int i]).depth ≤ 64 := by
    simp [PyData.depth, PyData.depthAll]
  unfold SeqAt.shaped
  rw [h1, decide_eq_true h2]
  rfl
theorem eqv_ref (s : Str) (i : Int) : PyData.eqv (.tuple [.str s, .int i]) (.tuple [.str s, .int i]) = true := by
  simp [PyData.eqv, PyData.eqvAll]
def spInverted : Sp := fun vs H Q _ => ∃ (a p : Int), vs = [.int a, .int p] ∧ 2 ≤ p ∧ p ≤ 65521 ∧ NoDiv p ∧
  (a % p = 0 → ∀ t H', Same H H' → H' t = some (.tup [.str "refused", .int a]) → Q (.ref t) H') ∧
  (a % p ≠ 0 → ∀ (b : Int) t H', 0 ≤ b → b < p → (b * a - 1) % p = 0 → Same H H' → H' t = some (.tup [.int b]) → Q (.ref t) H')
def spInvRight : Sp := fun vs H Q _ => ∃ (a p : Int), vs = [.int a, .int p] ∧ 2 ≤ p ∧ p ≤ 65521 ∧ NoDiv p ∧ ∀ H', Same H H' → Q (.bl true) H'
end Fs

/-! enumerate(tuple): made, walked, as a rule. -/
namespace FsE
open PySem
open PySem.Sem (wp)
open AutoSeq1 (wpAny_loadPart')
theorem meets_enum_tup (l : Addr) (items : Array Value) (n : Nat) (dct : Option Addr) (sl : Array (Option Value)) :
    Meets (Builtin.«enumerate.__new__» ⟨[.type "enumerate", .ref l], []⟩) (fun _ R s => s.heap.get? l = some { cls := .type "tuple", dict := dct, data := .seq items n, slots := sl } ∧
      R (.ok (.ret (.ref (s.heap.push { cls := .type "tuple_iterator", data := .fields #[.ref l, .int 0 0] }).objs.size)))
        { s with heap := (s.heap.push { cls := .type "tuple_iterator", data := .fields #[.ref l, .int 0 0] }).push { cls := .type "enumerate", data := .fields #[.none, .bool false, .ref s.heap.objs.size, rawInt 0, .none, .none] } }) :=
  .of_wp fun prog w A R s hyp => by
    obtain ⟨hp, g, d, tk, os⟩ := s
    obtain ⟨hl, hR⟩ := hyp
    have hsub := sub_enumerate
    have hT : Heap.IsTuple (Shared.heap ⟨hp, g, d, tk, os⟩) l items := ⟨_, hl, rfl, n, rfl⟩
    wp_walk using wpAny_loadPart' hl
    refine wpAny_stack_any fun stk => wpAny_pure ?_
    split
    · rename_i c _ _ _ _ _
      cases (c == Value.type "enumerate")
      · wp_walk using wpAny_loadPart' hl, wpAny_pyIter_tuple hT
        exact ⟨_, rfl, hR⟩
      · wp_walk using wpAny_loadPart' hl, wpAny_pyIter_tuple hT
        exact ⟨_, rfl, hR⟩
    · wp_walk using wpAny_loadPart' hl, wpAny_pyIter_tuple hT
      exact ⟨_, rfl, hR⟩
section
variable {prog : Program} {w : World} {A : Around} {E : Value → Shared → Prop} {s : Shared}
theorem call_enum_tup {l : Addr} {items : Array Value} {Q : Value → Shared → Prop} (hT : s.heap.IsTuple l items)
    (hQ : ∀ h1, IsEnum h1 (s.heap.objs.size + 1) s.heap.objs.size 0 .none → h1.IsTupleIter s.heap.objs.size l 0 →
      (∀ b o, s.heap.get? b = some o → h1.get? b = some o) → Q (.ref (s.heap.objs.size + 1)) { s with heap := h1 }) :
    wpAny (model prog w) A (call (.type "enumerate") [.ref l]) Q E s := by
  obtain ⟨⟨c, dct, dt, sl⟩, hl, hc, n, hd⟩ := hT
  have hc2 : c = .type "tuple" := hc
  have hd2 : dt = .seq items n := hd
  subst hc2 hd2
  refine callType_new F.called_enumerate (by decide) (F.typeCall_enumerate_1 _) (F.newCall_enumerate_1 _) (fun ob => F.args_object_init_2 ob _) F.entry_enumerate_new (meets_enum_tup l items n dct sl) ⟨hl, ?_⟩
  have size1 : (s.heap.push { cls := .type "tuple_iterator", data := .fields #[.ref l, .int 0 0] }).objs.size = s.heap.objs.size + 1 := Heap.size_push ..
  show _ ∧ _
  rw [size1]
  have isE : IsEnum ((s.heap.push { cls := .type "tuple_iterator", data := .fields #[.ref l, .int 0 0] }).push
      { cls := .type "enumerate", data := .fields #[.none, .bool false, .ref s.heap.objs.size, rawInt 0, .none, .none] }) (s.heap.objs.size + 1) s.heap.objs.size 0 .none := by
    have got := Heap.get?_push_size (s.heap.push { cls := .type "tuple_iterator", data := .fields #[.ref l, .int 0 0] })
      (o := { cls := .type "enumerate", data := .fields #[.none, .bool false, .ref s.heap.objs.size, rawInt 0, .none, .none] }) rfl
    rw [size1] at got
    exact got
  exact ⟨⟨_, isE, rfl⟩, hQ _ isE ⟨_, Heap.get?_push_of_some _ (Heap.get?_push_size _ rfl), rfl, rfl⟩ fun b o z => Heap.get?_push_of_some _ (Heap.get?_push_of_some _ z)⟩
end
end FsE
namespace Fs
open PySem PySem.Spec PyProof.Rows L2 FsE
/-- the tuple at a: at each turn a new pair of the number and the item -/
def IteT (K : PySem.W.Frag) (a : Addr) : It :=
  ⟨fun i H => ∃ (xs : List V) (x : V), SqT K H a xs ∧ xs[i]? = some x, fun i H v H' => ∃ T x, v = .ref T ∧ H T = none ∧ H' = upd H T (.tup [.int (i : Nat), x]) ∧ ∀ xs, SqT K H a xs → xs[i]? = some x, fun i H => ∃ xs : List V, SqT K H a xs ∧ xs.length = i⟩
theorem turn_enumT {P : Program} {w : World} {K : PySem.W.Frag} {elts : List Expr} {kk : Nat} {tpos : Pos} (a e it : Addr) (hne : e ≠ it) (hae : a ≠ e) (hai : a ≠ it) :
    Turn P w K (.Tuple elts kk tpos) (IteT K a) [e, it] e (fun i h => (∃ old, IsEnum h e it ((i : Nat) : Int) old) ∧ h.IsTupleIter it a i) where
  mem := by simp
  obj := fun i h st b hb => by
    obtain ⟨⟨old, he⟩, ⟨o, ho, _, hd⟩⟩ := st
    have which : b = e ∨ b = it := by simpa using hb
    rcases which with rfl | rfl
    · exact ⟨_, he, fun v q => nomatch q⟩
    · exact ⟨o, ho, fun v q => by rw [hd] at q; cases q⟩
  keep := fun i h h1 st k => by
    obtain ⟨⟨old, he⟩, hi⟩ := st
    exact ⟨⟨old, k e (by simp) _ he⟩, hi.at fun o q => k it (by simp) o q⟩
  item := by
    intro X hP hw hK hc i pins s σ H E I hf st hg
    subst hP hw hK
    obtain ⟨⟨old, he⟩, hit⟩ := st
    obtain ⟨xs, x, hq, hx⟩ := hg
    obtain ⟨its, rv, tp, _⟩ := I.tuple hq
    obtain ⟨u, hu, ru⟩ := rv.get hx
    have el : e < s.heap.objs.size := Heap.lt_size he
    have il : it < s.heap.objs.size := by obtain ⟨_, q, _⟩ := hit; exact Heap.lt_size q
    have hus : its.toArray[i]? = some u := by simpa using hu
    have isz : i < its.toArray.size := (Array.getElem?_eq_some_iff.mp hus).1
    refine wpAny_pyNext_enum_itemD (Draws.tuple (A := X.A.in1) (show X.A.in1.handled = none from I.ok.hd hc) it a hai its.toArray) he ⟨hit, tp⟩ isz hne (by simp [hne, Ne.symm hae]) fun y h1 tk hy ho st1 hT hsz hk => ?_
    have ey : y = u := Option.some.inj (hy.symm.trans hus)
    subst ey
    refine ⟨_, rfl, wpAny_letOwnedTupleGo_enum (s := { s with heap := h1, toks := tk + 1 }) ho fun h2 he2 sb => ?_⟩
    have hT2 : h2.get? s.heap.objs.size = some { cls := .type "tuple", data := .seq #[.int i tk, y] } := (sb.2 _ (Nat.ne_of_gt el)).trans hT
    have made : ObjOk X.prog X.w (upd H s.heap.objs.size (.tup [.int (i : Nat), x])) h2 s.heap.objs.size (.tup [.int (i : Nat), x]) :=
      ⟨by show 2 ≤ sizeLine; decide, [.int i tk, y], .cons ⟨_, rfl⟩ (.cons ru .nil), ⟨_, hT2, rfl, _, rfl⟩⟩
    have I1 : Inv X pins σ (upd H s.heap.objs.size (.tup [.int (i : Nat), x])) { s with heap := h2, toks := tk + 1 } :=
      I.turnedNew (ch := [e, it]) (fun b ob hb q => (sb.2 b (fun z => hb (by simp [z]))).trans (hk b ob (fun z => hb (by simp [z])) (fun z => hb (by simp [z])) q)) hf (Nat.le_refl _) made
    refine ⟨.ref s.heap.objs.size, _, I1, rfl, ⟨_, x, rfl, I.hok.fresh (Nat.le_refl _), rfl, fun ys hys => by rw [I.tuple_inj hys hq]; exact hx⟩, ⟨⟨y, ?_⟩, st1.1.at fun o q => (sb.2 it (Ne.symm hne)).trans q⟩, fun b hb => ?_⟩
    · rw [show ((i + 1 : Nat) : Int) = (i : Int) + 1 by omega]
      exact he2
    · have below : b < s.heap.objs.size := by
        have which : b = e ∨ b = it := by simpa using hb
        rcases which with rfl | rfl
        · exact el
        · exact il
      rw [upd_ne (Nat.ne_of_lt below)]
      exact (hf b hb).1
  done := by
    intro X hP hw hK hc i pins s σ H E I hf st hg
    subst hP hw hK
    obtain ⟨⟨old, he⟩, hit⟩ := st
    obtain ⟨xs, hq, hx⟩ := hg
    obtain ⟨its, rv, tp, _⟩ := I.tuple hq
    obtain ⟨f0, f1, f2, f3, f4, f5⟩ := hf it (by simp)
    have hl : its.toArray.size = i := by
      have := rv.length
      simp
      omega
    refine wpAny_pyNext_enum_endD (i := (i : Int)) (old := old) (Draws.tuple (A := X.A.in1) (show X.A.in1.handled = none from I.ok.hd hc) it a hai its.toArray) he (by rw [hl]; exact ⟨hit, tp⟩) fun h1 eb => ⟨rfl, I.turned (t' := s.toks) (fun b o hb q => eb b o hb q) f0 f1 f3 f4 f5⟩
  self := fun A i s Q E st h => let ⟨⟨_, he⟩, _⟩ := st; wpAny_pyIter_enum he h
def iEnumT (K : PySem.W.Frag) (ta : TA) : TI := fun σ H R => ta σ H fun vs H1 => ∃ a xs, vs = [.ref a] ∧ SqT K H1 a xs ∧ R (IteT K a) H1
theorem pi_enumT {X : Cx} {e : Expr} {ta : TA} {p pos tpos : Pos} {elts : List Expr} {kk : Nat} (hg : Gl X "enumerate") (hm : X.mg "enumerate" = none) (ha : PA X [e] ta) (hs : starEach [e] X.env = [(false, eval e X.env)] := by rfl) :
    PI X (.Tuple elts kk tpos) (.Call (.Name "enumerate" p) [e] [] pos) (iEnumT X.K ta) := by
  refine ⟨fun pins s σ H R I h => ?_⟩
  refine Call_ (ld_blt I hg hm PyProof.Rows.boot_enumerate (PyProof.Rows.callWith_type1 (thn (ha.run pos pins s σ H _ I h) fun us s1 ⟨vs, H1, I1, r1, got⟩ => ?_) hs rfl))
  obtain ⟨a, xs, ev, hq, q⟩ := got
  subst ev
  cases r1 with
  | cons r rr =>
    cases rr
    cases r
    obtain ⟨its, rv, tp, _⟩ := I1.tuple hq
    have al : a < s1.heap.objs.size := by obtain ⟨o, ho, _⟩ := id tp; exact Heap.lt_size ho
    refine call_enum_tup (show s1.heap.IsTuple a its.toArray from tp) fun h1 he hit hk => wpAny_pyIter_enum he ?_
    have I2 : Inv X pins σ H1 { s1 with heap := h1 } := I1.kept (t' := s1.toks) hk
    refine ⟨s1.heap.objs.size + 1, [s1.heap.objs.size + 1, s1.heap.objs.size], _, _, H1, rfl, I2, turn_enumT a (s1.heap.objs.size + 1) s1.heap.objs.size (Nat.succ_ne_self _) (Nat.ne_of_lt (Nat.lt_succ_of_lt al)) (Nat.ne_of_lt al), ⟨⟨.none, he⟩, hit⟩, fun b hb => ?_, q⟩
    have which : b = s1.heap.objs.size + 1 ∨ b = s1.heap.objs.size := by simpa using hb
    have fresh : s1.heap.objs.size ≤ b := by rcases which with rfl | rfl <;> omega
    exact I1.fpOk fresh (I1.hok.fresh fresh)
/-- a loop over enumerate(tuple) -/
theorem for_enumT {K : PySem.W.Frag} {a : Addr} {xs : List V} {g : TG} {tb : TS} {D : Ends} {σ : L2.St} {H : Hp} (Pv : Nat → L2.St → Hp → Prop) (h0 : Pv 0 σ H) (hq : ∀ i σ H, Pv i σ H → SqT K H a xs)
    (hs : ∀ (i : Nat) (x : V) (T : Addr) (σ : L2.St) (H : Hp), xs[i]? = some x → Pv i σ H → H T = none → g (.ref T) σ (upd H T (.tup [.int (i : Nat), x])) fun σ2 H2 => tb { D with nx := Pv (i + 1), ct := Pv (i + 1), bk := D.nx } σ2 H2) (hd : ∀ σ H, Pv xs.length σ H → D.nx σ H) :
    ∃ W : Nat → Nat → L2.St → Hp → Prop, (∃ m, W 0 m σ H) ∧ ∀ i m σ H, W i m σ H →
      ((IteT K a).stop i H ∧ D.nx σ H) ∨ ((IteT K a).go i H ∧ ∃ N : L2.St → Hp → Prop, (∀ σ' H', N σ' H' → ∃ m', m' < m ∧ W (i + 1) m' σ' H') ∧ ∀ v H', (IteT K a).yld i H v H' → g v σ H' fun σ2 H2 => tb { D with nx := N, ct := N, bk := D.nx } σ2 H2) := by
  refine ⟨fun i m σ H => m = xs.length - i ∧ i ≤ xs.length ∧ Pv i σ H, ⟨xs.length, rfl, Nat.zero_le _, h0⟩, ?_⟩
  rintro i m σ H ⟨rfl, hi, pv⟩
  have sq := hq i σ H pv
  by_cases lt : i < xs.length
  · refine .inr ⟨⟨xs, _, sq, List.getElem?_eq_getElem lt⟩, Pv (i + 1), fun σ' H' p' => ⟨xs.length - (i + 1), by omega, rfl, lt, p'⟩, fun v H' yl => ?_⟩
    obtain ⟨T, x', rfl, hT, rfl, f1⟩ := yl
    exact hs i x' T σ H (f1 xs sq) pv hT
  · have e : i = xs.length := by omega
    subst e
    exact .inl ⟨⟨xs, sq, rfl⟩, hd σ H pv⟩
end Fs

/-! functions as values: lambdas with a parameter and captured names, handed down to other defs and called there -/
namespace Fs
open PySem PySem.Spec PyProof.Rows L2
abbrev Tabz := List (Addr × Str)
abbrev lamF (q : Str) (params : Arguments) (scope : Scope) (cl : List (Str × Addr)) (c' : Addr) : NdefX.NF := ⟨"<lambda>", q, params, [], scope, cl, c'⟩
section
variable {P : Program} {w : World} {K : PySem.W.Frag} {mg : Str → Option Value} {base : Heap}
/-- a lambda's call, by its body -/
theorem lam_run {N ps fr : List Str} {q : Str} {params : Arguments} {body : Expr} {scope : Scope} {cl : List (Str × Addr)} {pm ctv : Value} {f c' : Addr} {k : Nat} {A : Around} {outer : List Env} {s : Shared} {H : Hp} {us : List Value} {vs : List V} {ws : List (Option V)} {Q : VK} {E : XK} {o : Obj}
    (S : NdefX.NScope N ps fr scope) (hb : bindArgs (PySem.W.kla_fn "<lambda>" q params body scope cl pm (.ref c') ctv) ⟨us, []⟩ = pure (ps.zip us)) (hr : Room (k + 1) A) (e0 : Env0 P w K mg base A outer s H)
    (hf : s.heap.get? f = some o) (ho : o.data = .func (PySem.W.kla_fn "<lambda>" q params body scope cl pm (.ref c') ctv)) (hc : H c' = some (LamX.CodeO c' q)) (C : NdefX.CellsAt cl fr ws s.heap H) (r : Vals vs us) (hl : vs.length = ps.length)
    (hbody : Room k (A.deeper (NdefX.envF (lamF q params scope cl c') f s.heap.objs.size)) → ∃ t, PE (NdefX.ncx CX0 P w K mg base N (lamF q params scope cl c') f A outer s H E0).nox body t ∧ t (NdefX.startF N vs ws) H Q) :
    codeAny (model P w) A (.call (.ref f) ⟨us, []⟩) (CR CX0 outer P w H s Q E) s := by
  obtain ⟨⟨oc, vc, tc, hoc, hdc, hvc⟩, _, _⟩ := e0.hok c' _ hc
  have lim : s.heap.NoLimit := e0.mod.nolimit.keeps fun b ob z => (e0.bs b ob z).1
  refine PySem.W.kla_callFunE hr.depth hf ho S.co S.gen rfl ⟨c', oc, vc, tc, rfl, hoc, hdc, hvc⟩ ?_
  rw [hb]
  refine wpAny_pure (wpAny_newFunctionEnv S.nocell (fun ⟨n, _⟩ hy => S.par n (List.of_mem_zip hy).1) (fun h1 hns hsb => ⟨lim.fresh _ hsb, ?_⟩) S.kind)
  show codeAny _ _ (.expr body (NdefX.envF (lamF q params scope cl c') f s.heap.objs.size)) _ _
  have kp : ∀ b ob, s.heap.get? b = some ob → h1.get? b = some ob := fun b ob z => hsb.extBut b ob (Nat.ne_of_lt (Heap.lt_size z)) (Heap.get?_push_of_some _ z)
  obtain ⟨t, ht, hq⟩ := hbody (hr.deeper _)
  have I := NdefX.inv_startN (CX := CX0) (E := E0) (F := lamF q params scope cl c') (f := f) (tk := s.toks + (ps.zip us).length) S hr.hd e0 hl r C hns kp
  refine PySem.W.kla_codeExpr (wpAny_mono (ht.run [] _ _ H Q (I.wish _) hq) (fun v s' got => ?_) fun e s' z => False.elim z)
  obtain ⟨v', H', J, rv, qq⟩ := got
  exact ⟨v', H', J.os, J.bare, J.base, J.hok, rv, qq⟩
theorem un_mono {fs fs' ex : List Addr} {H H' : Hp} {h h' : Heap} (u : Un fs ex H H' h h') (sub : ∀ b ∈ fs, b ∈ fs') : Un fs' ex H H' h h' :=
  ⟨fun b o e n nf nx => u.keep b o e n (fun z => nf (sub b z)) nx, fun b o e n _ nx => u.any e n nx, u.free, u.there, u.tups, u.frzs, u.tbls⟩
/-- the state s with H comes later than s0 with H0 -/
structure Later (s0 : Shared) (H0 : Hp) (s : Shared) (H : Hp) : Prop where
  un : ∃ fs, Un fs [] H0 H s0.heap s.heap
  ext : LamX.ExtN H0 H
theorem Later.trans {s0 s1 s2 : Shared} {H0 H1 H2 : Hp} (a : Later s0 H0 s1 H1) (b : Later s1 H1 s2 H2) : Later s0 H0 s2 H2 := by
  obtain ⟨fs, u⟩ := a.un
  obtain ⟨fs2, u2⟩ := b.un
  exact ⟨⟨fs ++ fs2, (un_mono u fun b hb => List.mem_append_left _ hb).trans (un_mono u2 fun b hb => List.mem_append_right _ hb)⟩, a.ext.trans b.ext⟩
theorem Later.refl (s : Shared) (H : Hp) : Later s H s H := ⟨⟨[], Un.kept fun _ _ z => z⟩, LamX.ExtN.refl H⟩
/-- what stands at f may be called with one value of which pre holds, and then tells g of it; T: the tables of code objects -/
structure CallsB (P : Program) (w : World) (K : PySem.W.Frag) (mg : Str → Option Value) (base : Heap) (k : Nat) (T : Tabz) (s0 : Shared) (H0 : Hp) (f : Addr) (pre : V → Hp → Prop) (g : V → Bool) : Prop where
  fn : ∀ s H, Later s0 H0 s H → PySem.W.FnAt f s.heap
  run : ∀ (A : Around) (outer : List Env) (s : Shared) (H : Hp) (u : Value) (v : V) (Q : VK) (E : XK), Room k A → Env0 P w K mg base A outer s H → Later s0 H0 s H → LamX.Tabs T H → RelV v u → pre v H →
    (∀ H', LamX.ExtN H H' → LamX.Tabs T H' → Q (.bl (g v)) H') → codeAny (model P w) A (.call (.ref f) ⟨[u], []⟩) (CR CX0 outer P w H s Q E) s
theorem CallsB.later {k : Nat} {T : Tabz} {s0 s1 : Shared} {H0 H1 : Hp} {f : Addr} {pre : V → Hp → Prop} {g : V → Bool} (c : CallsB P w K mg base k T s0 H0 f pre g) (l : Later s0 H0 s1 H1) : CallsB P w K mg base k T s1 H1 f pre g :=
  ⟨fun s H l2 => c.fn s H (l.trans l2), fun A outer s H u v Q E hr e0 l2 => c.run A outer s H u v Q E hr e0 (l.trans l2)⟩
/-- a def of the text as such a value -/
theorem calls_def {k : Nat} {T : Tabz} {s0 : Shared} {H0 : Hp} {x : Str} {a : Str} {f : Addr} {fd : FuncData} {sp : Sp} {pre : V → Hp → Prop} {g : V → Bool} (G : Ok P w K mg base CX0 x k [a] sp f fd) (hfn : ∀ h, K.In h → PySem.W.FnAt f h) (hK : ∀ s H, Later s0 H0 s H → K.In s.heap)
    (hsp : ∀ (v : V) (H : Hp) (Q : VK) (E : XK), LamX.Tabs T H → pre v H → (∀ H', LamX.ExtN H H' → LamX.Tabs T H' → Q (.bl (g v)) H') → sp [v] H Q E) : CallsB P w K mg base k T s0 H0 f pre g :=
  ⟨fun s H l => hfn _ (hK s H l), fun A outer s H u v Q E hr e0 l t r p q => (G.ok.raw G.b .nil) A outer s H [u] [v] Q E hr e0 (.cons r .nil) (hsp v H Q E t p q)⟩
end
section
variable {X : Cx} {pins : List (Addr × Obj)} {σ : L2.St} {H : Hp} {s : Shared}
theorem Inv.laterX (I : Inv X pins σ H s) (hx : X.ex = []) (e : LamX.ExtN X.H_0 H) : Later X.s_0 X.H_0 s H := ⟨⟨X.fs, by have u := I.base; rw [hx] at u; exact u⟩, e⟩
/-- a lambda just made as such a value -/
theorem lam_calls {T : Tabz} {N fr : List Str} {a q : Str} {params : Arguments} {body : Expr} {scope : Scope} {cl : List (Str × Addr)} {pm ctv : Value} {f c' : Addr} {k : Nat} {js : List Nat} {t : TE} {pre : V → Hp → Prop} {g : V → Bool} (I : Inv X pins σ H s) (cp : NdefX.Caps X cl fr js)
    (hf : s.heap.get? f = some (PySem.W.kla_obj "<lambda>" q params body scope cl pm c' ctv)) (hfn : H f = none) (hc : H c' = some (LamX.CodeO c' q)) (S : NdefX.NScope N [a] fr scope)
    (hb : ∀ (u pm cv ctv : Value), bindArgs (PySem.W.kla_fn "<lambda>" q params body scope cl pm cv ctv) ⟨[u], []⟩ = pure [(a, u)])
    (hbody : ∀ (A : Around) (outer : List Env) (s : Shared) (H : Hp), Room k (A.deeper (NdefX.envF (lamF q params scope cl c') f s.heap.objs.size)) → PE (NdefX.ncx CX0 X.prog X.w X.K X.mg X.base N (lamF q params scope cl c') f A outer s H E0).nox body t)
    (hq : ∀ (v : V) (H : Hp) (Q : VK), LamX.Tabs T H → pre v H → (∀ H', LamX.ExtN H H' → LamX.Tabs T H' → Q (.bl (g v)) H') → t (NdefX.startF N [v] (js.map (NdefX.slotAt σ))) H Q) :
    CallsB X.prog X.w X.K X.mg X.base (k + 1) T s H f pre g := by
  have C0 := NdefX.cells_of I cp
  have isF : ∀ s1 H1, Later s H s1 H1 → ∃ o : Obj, s1.heap.get? f = some o ∧ o.data = .func (PySem.W.kla_fn "<lambda>" q params body scope cl pm (.ref c') ctv) := fun s1 H1 l => by
    obtain ⟨fs, u⟩ := l.un
    obtain ⟨sl, z⟩ := u.any hf hfn (by simp)
    exact ⟨_, z, rfl⟩
  refine ⟨fun s1 H1 l => ?_, fun A outer s1 H1 u v Q E hr e0 l tb r p qq => ?_⟩
  · obtain ⟨⟨oc, od, dt, sl⟩, z, hd⟩ := isF s1 H1 l
    have hd2 : dt = .func (PySem.W.kla_fn "<lambda>" q params body scope cl pm (.ref c') ctv) := hd
    subst hd2
    exact ⟨oc, od, _, sl, z⟩
  · obtain ⟨o, z, hd⟩ := isF s1 H1 l
    obtain ⟨fs, un⟩ := l.un
    have cellK : ∀ {y : Str} {c : Addr} {x : Option Value}, cl.lookup y = some c → s.heap.IsCell c x → s1.heap.IsCell c x := fun {y c x} e ⟨ob, h1, h2⟩ => by
      obtain ⟨sl, zz⟩ := un.any h1 (C0.all y c e).1 (by simp)
      exact ⟨_, zz, h2⟩
    have C1 : NdefX.CellsAt cl fr (js.map (NdefX.slotAt σ)) s1.heap H1 := by
      refine ⟨C0.len, fun y c e => ?_, C0.inj, fun i y e => ?_⟩
      · obtain ⟨n, x, hx⟩ := C0.all y c e
        refine ⟨?_, x, cellK e hx⟩
        obtain ⟨ob, h1, _⟩ := hx
        exact un.free c ob h1 n (by simp)
      · obtain ⟨c, e2, hv⟩ := C0.has i y e
        refine ⟨c, e2, fun x ex => ?_⟩
        obtain ⟨u2, r2, z2⟩ := hv x ex
        exact ⟨u2, r2, cellK e2 z2⟩
    have hc1 : H1 c' = some (LamX.CodeO c' q) := l.ext _ _ hc LamX.codeO_ne
    exact lam_run (N := N) (ps := [a]) (fr := fr) S (hb u pm (.ref c') ctv) hr e0 z hd hc1 C1 (.cons r .nil) rfl fun hr2 => ⟨t, hbody A outer s1 H1 hr2, hq v H1 Q tb p qq⟩
end
end Fs

/-! calls of what a parameter holds; defs that get a function; a lambda as the last argument -/
namespace Fs
open PySem PySem.Spec PyProof.Rows L2
abbrev SpS := Shared → List V → Hp → VK → Prop
/-- a def whose promise is told of the state at the call; it raises nothing -/
structure OkC (P : Program) (w : World) (K : PySem.W.Frag) (mg : Str → Option Value) (base : Heap) (x : Str) (k : Nat) (sp : SpS) (f : Addr) : Prop where
  run : ∀ (A : Around) (outer : List Env) (s : Shared) (H : Hp) (us : List Value) (vs : List V) (Q : VK), Room k A → Env0 P w K mg base A outer s H → Vals vs us → sp s vs H Q →
    codeAny (model P w) A (.call (.ref f) ⟨us, []⟩) (CR CX0 outer P w H s Q L2.E0) s
  k : PySem.W.keepIn K (.ref f) = true
  g : mg x = some (.ref f)
theorem okC_mk {P : Program} {w : World} {K : PySem.W.Frag} {mg : Str → Option Value} {base : Heap} {x : Str} {st : Stmt} {k : Nat} {N ps : List Str} {sp : SpS} {f : Addr} {fd : FuncData} (D : DefAt K mg x st ps f fd) (S : FnScope N ps (defScope st)) (len : ∀ s vs H Q, sp s vs H Q → vs.length = ps.length)
    (hbody : ∀ (cdv : Value) (A : Around) (outer : List Env) (s : Shared) (H : Hp) (vs : List V) (Q : VK), Room k (A.deeper (envOfC x (defScope st) s.heap.objs.size f cdv)) → sp s vs H Q →
      ∃ t, PSs (cxOf CX0 P w K mg base N x (defScope st) f cdv A outer s H L2.E0).nox (defBody st) t ∧ t { nx := fun _ H' => Q .non H', rt := Q } (start N vs) H) : OkC P w K mg base x (k + 1) sp f := by
  refine ⟨fun A outer s H us vs Q hr e0 r q => ?_, D.F.kp, D.g⟩
  have hl := len _ _ _ _ q
  have KX : K.In s.heap := e0.mod.kin.keeps fun b o e => (e0.bs b o e).1
  have hb : BindsTo s fd ⟨us, []⟩ (ps.zip us) := by
    have z := D.b s us KX (by rw [List.append_nil, ← r.length]; exact hl)
    rw [List.append_nil] at z
    exact z
  obtain ⟨oc, od, kV, doc, pm, an, cdv, ct, osl, rfl, lk, hcd⟩ := D.F.ex
  refine LamX.run_ofS lk hcd S hr e0 hb r hl fun hr2 => ?_
  obtain ⟨t, ht, hq⟩ := hbody cdv A outer s H vs Q hr2 q
  exact ⟨t, ht.nox, hq⟩
section
variable {X : Cx}
/-- x(e), x a parameter that holds what may be called -/
def tCallP (X : Cx) (T : Tabz) (i k : Nat) (t : TA) : TE := fun σ H Q => ∃ (f : Addr) (pre : V → Hp → Prop) (g : V → Bool), σ[i]? = some (some (.ref f)) ∧ CallsB X.prog X.w X.K X.mg X.base k T X.s_0 X.H_0 f pre g ∧ LamX.ExtN X.H_0 H ∧
  t σ H fun vs H1 => ∃ v, vs = [v] ∧ LamX.ExtN X.H_0 H1 ∧ LamX.Tabs T H1 ∧ pre v H1 ∧ ∀ H', LamX.ExtN H1 H' → LamX.Tabs T H' → Q (.bl (g v)) H'
theorem pe_callP {T : Tabz} {i j k : Nat} {x : Str} {e : Expr} {t : TA} {p pos : Pos} (hex : X.ex = []) (hr : Room j X.A) (hk : k ≤ j) (hN : X.N[i]? = some x) (hv : Vis X.env.scope x) (ha : PA X [e] t)
    (hd : (x == ("__debug__" : Str)) = false := by decide) (hcd : (x == ("__classdict__" : Str)) = false := by decide)
    (he : starEach [e] X.env = (false, eval e X.env) :: starEach [] X.env := by rfl) : PE X (.Call (.Name x p) [e] [] pos) (tCallP X T i k t) := by
  refine ⟨fun pins s σ H Q I h => ?_⟩
  obtain ⟨f, pre, g, hs, c, x0, ht⟩ := h
  refine wpAny_Call_Name_kw (thn ((pe_var (pos := p) hN hv hd hcd).run pins s σ H (fun v H1 => v = .ref f ∧ H1 = H) I ⟨.ref f, hs, rfl, rfl⟩) fun u s1 ⟨v, H1, I1, r1, q1⟩ => ?_)
  obtain ⟨ev, eH⟩ := q1
  subst ev
  rw [eH] at I1
  obtain rfl : u = Value.ref f := r1
  refine PySem.W.callWith_F (first := []) (c.fn _ _ (Inv.laterX I1 hex x0)) (thn (ha.run pos pins s1 σ H _ I1 ht) fun us s2 ⟨vs, H2, I2, r, v, ev, x2, tb, hp, q⟩ => ?_) he rfl
  subst ev
  have l2 := Inv.laterX I2 hex x2
  refine ⟨c.fn _ _ l2, ?_⟩
  cases r with
  | cons r0 rn =>
    cases rn
    show wpAny _ _ (call (.ref f) [_]) _ _ _
    refine wpAny_call (codeAny_mono (c.run X.A X.stack s2 H2 _ v Q L2.E0 (hr.mono hk) I2.env0 l2 tb r0 hp q) fun r s' hq => ?_)
    cases r with
    | error e => exact (show False from hq).elim
    | ok fl =>
      cases fl with
      | ret u => exact I2.after hq
      | next => exact False.elim hq
      | brk => exact False.elim hq
      | cont => exact False.elim hq
/-- arguments, their reading told of the state that they end in -/
abbrev TAS := L2.St → Hp → (Shared → List V → Hp → Prop) → Prop
structure PAs (X : Cx) (es : List Expr) (t : TAS) : Prop where
  run : ∀ (pos : Pos) (pins : List (Addr × Obj)) (s : Shared) (σ : L2.St) (H : Hp) (Q : Shared → List V → Hp → Prop), Inv X pins σ H s → t σ H Q →
    wpAny (model X.prog X.w) X.A (spliced (backTo pos (starEach es X.env))) (fun us s' => ∃ vs H', Inv X pins σ H' s' ∧ Vals vs us ∧ Q s' vs H') X.xe s
def tPlainS (X : Cx) (t : TA) : TAS := fun σ H Q => t σ H fun vs H1 => LamX.ExtN X.H_0 H1 ∧ ∀ s1, Later X.s_0 X.H_0 s1 H1 → Q s1 vs H1
theorem pas_of {es : List Expr} {t : TA} (hex : X.ex = []) (ha : PA X es t) : PAs X es (tPlainS X t) :=
  ⟨fun pos pins s σ H Q I h => thn (ha.run pos pins s σ H _ I h) fun us s1 ⟨vs, H1, I1, r, x1, q⟩ => ⟨vs, H1, I1, r, q s1 (Inv.laterX I1 hex x1)⟩⟩
def tConsS (te : TE) (t : TAS) : TAS := fun σ H Q => te σ H fun v H1 => t σ H1 fun s vs H2 => Q s (v :: vs) H2
theorem pas_cons {e : Expr} {es : List Expr} {te : TE} {t : TAS} (ha : PE X e te) (hr : PAs X es t) (hs : starEach (e :: es) X.env = (false, eval e X.env) :: starEach es X.env := by rfl) : PAs X (e :: es) (tConsS te t) := by
  refine ⟨fun pos pins s σ H Q I h => ?_⟩
  rw [hs]
  show wpAny _ _ (spliced ((false, eval e X.env) :: backTo pos (starEach es X.env))) _ _ s
  refine Calls.spliced_cons (thn (ha.run pins s σ H _ I h) fun u s1 ⟨x, H1, I1, r1, q1⟩ => ?_)
  exact thn (hr.run pos pins s1 σ H1 _ I1 q1) fun us s2 ⟨xs, H2, I2, r2, q2⟩ => ⟨x :: xs, H2, I2, .cons r1 r2, q2⟩
/-- a lambda as the last argument; t: its body's reading -/
def tLamS (X : Cx) (T : Tabz) (N : List Str) (js : List Nat) (k : Nat) (t : TE) : TAS := fun σ H Q => LamX.Tabs T H ∧ ∃ (pre : V → Hp → Prop) (g : V → Bool),
  (∀ (v : V) (H1 : Hp) (Q1 : VK), LamX.Tabs T H1 → pre v H1 → (∀ H', LamX.ExtN H1 H' → LamX.Tabs T H' → Q1 (.bl (g v)) H') → t (NdefX.startF N [v] (js.map (NdefX.slotAt σ))) H1 Q1) ∧
  ∀ (s1 : Shared) (f : Addr) (H1 : Hp), LamX.ExtN H H1 → LamX.Tabs T H1 → CallsB X.prog X.w X.K X.mg X.base (k + 1) T s1 H1 f pre g → Q s1 [.ref f] H1
theorem pas_lam {T : Tabz} {N fr : List Str} {a : Str} {js : List Nat} {c P : Addr} {params : Arguments} {body : Expr} {scope : Scope} {lpos : Pos} {k : Nat} {t : TE} (TB : LamX.TabB X.base X.mg c P) (hcode : X.env.code = .ref c)
    (hm : (P, X.env.qual ++ "<lambda>") ∈ T) (hu : ∀ p ∈ T, p.1 = P → p.2 = X.env.qual ++ "<lambda>") (S : NdefX.NScope N [a] fr scope)
    (hfree : ∀ y ∈ scope.names, y.2 = .free → X.env.scope.names.lookup y.1 = some .cell ∨ X.env.scope.names.lookup y.1 = some .free) (hfr : ∀ y ∈ fr, (y, NameKind.free) ∈ scope.names) (hjs : js.map (fun j => X.N[j]?) = fr.map some)
    (hbody : ∀ (q : Str) (cl : List (Str × Addr)) (f c' : Addr) (A : Around) (outer : List Env) (s : Shared) (H : Hp), Room k (A.deeper (NdefX.envF (lamF q params scope cl c') f s.heap.objs.size)) → PE (NdefX.ncx CX0 X.prog X.w X.K X.mg X.base N (lamF q params scope cl c') f A outer s H L2.E0).nox body t)
    (hdef : defaultsOf params X.env = ([], []) := by rfl)
    (hb : ∀ (q : Str) (cl : List (Str × Addr)) (u pm cv ctv : Value), bindArgs (PySem.W.kla_fn "<lambda>" q params body scope cl pm cv ctv) ⟨[u], []⟩ = pure [(a, u)] := by intros; rfl) :
    PAs X [.Lambda params body scope lpos] (tLamS X T N js k t) := by
  refine ⟨fun pos pins s σ H Q I h => ?_⟩
  obtain ⟨hT, pre, g, hq, h⟩ := h
  show wpAny _ _ (spliced ((false, eval (.Lambda params body scope lpos) X.env) :: [])) _ _ s
  have hf2 : ∀ y ∈ scope.names, y.2 = .free → ∃ c, X.env.cells.lookup y.1 = some c := fun y hy e => (hfree y hy e).elim (fun z => I.ok.has _ (.inl z)) fun z => I.ok.has _ (.inr z)
  refine Calls.spliced_cons (LamX.lam_make2 I TB hcode hm hu hT hdef hf2 fun f c' pm ctv H1 s1 I1 eN T1 hfo hfn hfs hc => ?_)
  refine Calls.spliced_nil ⟨[.ref f], H1, I1, .cons rfl .nil, h s1 f H1 eN T1 ?_⟩
  exact lam_calls I1 (NdefX.Caps.made I1.ok hfree hfr hjs) hfo hfn hc S (fun u pm cv ctv => hb _ _ u pm cv ctv) (fun A outer s H hr => hbody _ _ f c' A outer s H hr) hq
def tCallC (sp : SpS) (t : TAS) : TE := fun σ H Q => t σ H fun s1 vs H1 => sp s1 vs H1 Q
/-- g(..), g a def whose promise is told of the state -/
theorem pe_callC {k : Nat} {x : Str} {sp : SpS} {f : Addr} {e : Expr} {es : List Expr} {t : TAS} {p pos : Pos} (G : OkC X.prog X.w X.K X.mg X.base x k sp f) (hr : Room k X.A) (hg : Gl X x) (ha : PAs X (e :: es) t) (hdb : (x == ("__debug__" : Str)) = false := by decide)
    (he : starEach (e :: es) X.env = (false, eval e X.env) :: starEach es X.env := by rfl) (hpl : (backTo pos (starEach es X.env)).any (·.1) = false := by rfl) : PE X (.Call (.Name x p) (e :: es) [] pos) (tCallC sp t) := by
  refine ⟨fun pins s σ H Q I h => ?_⟩
  refine wpAny_Call_Name_kw (ld_glob I hg G.g ?_ hdb)
  refine PySem.W.callWith_K (first := []) (h₀ := X.base) I.ok.mod.kin G.k (thn (ha.run pos pins s σ H _ I h) fun us s1 ⟨vs, H1, I1, r, q⟩ => ⟨I1.kIn, ?_⟩) he hpl
  show wpAny _ _ (call (.ref f) us) _ _ _
  refine wpAny_call (codeAny_mono (G.run X.A X.stack s1 H1 us vs Q hr I1.env0 r q) fun r s' hq => ?_)
  cases r with
  | error e => exact (show False from hq).elim
  | ok fl =>
    cases fl with
    | ret u => exact I1.after hq
    | next => exact False.elim hq
    | brk => exact False.elim hq
    | cont => exact False.elim hq
end
end Fs

/-! rules that the library has not: t[::-1] of a tuple, t * k down to k = 1, len(set(t)) of a tuple of ints -/
namespace Fs
open PySem PySem.Spec PyProof.Rows L2 HT
section
variable {prog : Program} {w : World} {A : Around} {E : Value → Shared → Prop} {s : Shared}
theorem adjust_rev (n : Int) : Builtin.Slice.sliceAdjust none none (-1) n = (n - 1, -1) := by
  unfold Builtin.Slice.sliceAdjust
  have h1 : ((-1 : Int) < 0) := by omega
  simp only [h1, if_true]
theorem places_rev (n : Nat) : Builtin.Slice.slicePlaces ((n : Int) - 1) (-1) (-1) = n := by
  unfold Builtin.Slice.slicePlaces
  have h1 : ¬ ((-1 : Int) > 0) := by omega
  simp only [h1, if_false]
  split
  · rw [show -(-1 : Int) = 1 by rfl, Int.ediv_one]
    omega
  · omega
theorem sliceApplied_rev {sl : Addr} {vl vu vs : Value} {n : Nat} {Q : Int × Int × Nat → Shared → Prop} (hs : s.heap.IsSliceOf sl vl vu vs) (pl : IsPart vl none) (pu : IsPart vu none) (ps : IsPart vs (some (-1)))
    (h : Q ((n : Int) - 1, -1, n) s) : wpAny (model prog w) A (Builtin.Slice.sliceApplied (.ref sl) (pure (n : Int))) Q E s := by
  obtain ⟨os, hos, hcs, hds⟩ := id hs
  unfold Builtin.Slice.sliceApplied Builtin.Slice.sliceFields
  refine wpAny_bind (wpAny_bind (wpAny_field hos hds (x := vl) rfl (wpAny_bind (wpAny_field hos hds (x := vu) rfl (wpAny_bind (wpAny_field hos hds (x := vs) rfl (wpAny_pure ?_)))))))
  refine wpAny_bind (slicePart_ ps ?_)
  show wpAny _ _ (if ((-1 : Int) == 0) = true then _ else _) _ _ s
  rw [if_neg (by decide)]
  refine wpAny_bind (slicePart_ pl (wpAny_bind (slicePart_ pu (wpAny_bind (wpAny_pure ?_)))))
  show wpAny _ _ (match Builtin.Slice.sliceAdjust none none (-1) (n : Int) with | (lo, hi) => pure (lo, (-1 : Int), Builtin.Slice.slicePlaces lo hi (-1))) _ _ s
  rw [adjust_rev]
  show wpAny _ _ (pure ((n : Int) - 1, (-1 : Int), Builtin.Slice.slicePlaces ((n : Int) - 1) (-1) (-1))) _ _ s
  rw [places_rev]
  exact wpAny_pure h
theorem rev_get (xs : List Value) : ∀ m : Nat, m ≤ xs.length → (List.range m).filterMap (fun (k : Nat) => xs.toArray[(((xs.length : Nat) : Int) - 1 + (k : Int) * -1).toNat]?) = xs.reverse.take m
  | 0, _ => rfl
  | m + 1, h => by
    have ih := rev_get xs m (by omega)
    rw [List.range_succ, List.filterMap_append, ih, List.take_add_one]
    congr 1
    have e : (((xs.length : Nat) : Int) - 1 + (m : Int) * -1).toNat = xs.length - 1 - m := by omega
    have e2 : xs.reverse[m]? = xs[xs.length - 1 - m]? := List.getElem?_reverse (by omega)
    simp only [List.filterMap_cons, List.filterMap_nil, e, List.getElem?_toArray, e2]
    cases xs[xs.length - 1 - m]? <;> rfl
theorem getItem_tuple_rev {t sl : Addr} {xs : List Value} {vl vu vs : Value} {Q : Value → Shared → Prop} (ht : IsTup s.heap t xs.toArray) (hs : s.heap.IsSliceOf sl vl vu vs) (pl : IsPart vl none) (pu : IsPart vu none) (ps : IsPart vs (some (-1)))
    (h : Q (.ref s.heap.objs.size) { s with heap := s.heap.push { cls := .type "tuple", data := .seq xs.reverse.toArray } })
    (hsz : xs.length ≤ sizeLine) : wpAny (model prog w) A (getItem (.ref t) (.ref sl)) Q E s := by
  have htake : sizeOk (.seq xs.reverse.toArray) := by
    show xs.reverse.toArray.size ≤ sizeLine
    rw [List.size_toArray, List.length_reverse]
    exact hsz
  obtain ⟨os, hos, hcs, hds⟩ := id hs
  have hTs : s.TypeIs (.ref sl) "slice" := ⟨os, hos, hcs⟩
  unfold getItem
  try with_reducible refine wpAny_holding ?_
  first | refine wpAny_bind (wpAny_pure ?_) | skip
  refine wpAny_bind (wpAny_sequenceKey ht.typeIs (by decide) ?_)
  refine wpAny_bind (wpAny_callSpecial?_slot (name := Str.ofString "__getitem__") ht.typeIs PyProof.Rows.slot_tuple_getitem
    (wpAny_call_entry PyProof.Rows.slot_tuple_getitem ht.typeIs entry_tuple_getitem ?_ (args_tuple_getitem _ _)))
  show wpAny _ _ (Builtin.Tuple.tupleItemsOf (.ref t) >>= _) _ _ s
  refine wpAny_bind (tupleItemsOf_ ht ?_)
  refine wpAny_bind (wpAny_typeOf hTs ?_)
  rw [if_pos (by decide)]
  have hn : xs.toArray.size = xs.length := List.size_toArray
  rw [hn]
  refine wpAny_bind (sliceApplied_rev hs pl pu ps ?_)
  have hno : ¬ (((((xs.length : Nat) : Int) - 1) == 0 && (-1 : Int) == 1 && (xs.length == xs.length)) = true) := by
    rw [Bool.and_eq_true, Bool.and_eq_true]
    rintro ⟨⟨_, z⟩, _⟩
    exact absurd z (by decide)
  show wpAny _ _ (if ((((xs.length : Nat) : Int) - 1) == 0 && (-1 : Int) == 1 && (xs.length == xs.length)) = true then _ else _) _ _ s
  rw [if_neg hno, rev_get xs xs.length (Nat.le_refl _), List.take_of_length_le (by rw [List.length_reverse]; exact Nat.le_refl _)]
  first
    | exact wpAny_bind (m := Builtin.Tuple.tupleExact _) (wpAny_newObj_type (wpAny_pure ⟨_, rfl, wpAny_pure h⟩) htake)
    | exact wpAny_bind (m := Builtin.Tuple.tupleExact _) (wpAny_newObj_type (wpAny_bind (wpAny_pure (wpAny_pure ⟨_, rfl, wpAny_pure h⟩))) htake)
    | exact wpAny_bind (wpAny_bind (m := Builtin.Tuple.tupleExact _) (wpAny_newObj_type (wpAny_pure (wpAny_pure ⟨_, rfl, wpAny_pure h⟩)) htake))
    | exact wpAny_bind (wpAny_bind (m := Builtin.Tuple.tupleExact _) (wpAny_newObj_type (wpAny_pure ⟨_, rfl, wpAny_pure h⟩) htake))
end
section
variable {X : Cx}
def tRevT (K : PySem.W.Frag) (te : TE) : TE := fun σ H Q => te σ H fun x H1 => ∃ a xs, x = .ref a ∧ SqT K H1 a xs ∧ ∀ p, H1 p = none → Q (.ref p) (upd H1 p (.tup xs.reverse))
theorem pe_revT {e : Expr} {te : TE} {k : Nat} {p1 p2 p3 pos : Pos} (he : PE X e te) : PE X (.Subscript e (.Slice none none (some (.UnaryOp .USub (.Constant (.int 1) k p1) p2)) p3) pos) (tRevT X.K te) := by
  refine ⟨fun pins s σ H Q I h => ?_⟩
  refine Subscript_ (thn (he.run pins s σ H _ I h) fun v s1 ⟨x, H1, I1, r1, q1⟩ => ?_)
  obtain ⟨a, xs, ex, hx, q⟩ := q1
  subst ex
  cases r1
  have hst : PO X (some (.UnaryOp .USub (.Constant (.int 1) k p1) p2)) (tPart (tUn (rU fun i => .int (-i)) (tC (.int 1)))) := po_some (pe_un un_neg pe_int)
  refine wpAny_Slice (thn (po_none.run pins s1 σ H1 (fun o H2 => o = none ∧ H2 = H1) I1 ⟨rfl, rfl⟩) fun vl s2 ⟨l, H2, I2, pl, el, e2⟩ => ?_)
  subst el e2
  refine thn (po_none.run pins s2 σ H2 (fun o H3 => o = none ∧ H3 = H2) I2 ⟨rfl, rfl⟩) fun vu s3 ⟨u, H3, I3, pu, eu, e3⟩ => ?_
  subst eu e3
  refine thn (hst.run pins s3 σ H3 (fun o H4 => o = some (-1) ∧ H4 = H3) I3 ⟨1, rfl, -1, rfl, rfl, rfl⟩) fun vs s4 ⟨o, H4, I4, ps, eo, e4⟩ => ?_
  subst eo e4
  have I5 : Inv X pins σ H4 { s4 with heap := s4.heap.push { cls := .type "slice", data := .fields #[vl, vu, vs] } } := I4.kept (t' := s4.toks) fun b ob q => Heap.get?_push_of_some _ q
  obtain ⟨its, r, ht, hz⟩ := I5.tuple hx
  have hlen := r.length
  show wpAny (model X.prog X.w) X.A (subscriptTail e (.Slice none none (some (.UnaryOp .USub (.Constant (.int 1) k p1) p2)) p3) (.ref a) (.ref s4.heap.objs.size)) (EP X pins σ Q) X.xe { s4 with heap := s4.heap.push { cls := .type "slice", data := .fields #[vl, vu, vs] } }
  refine tail_any (ops := [.ref a, .ref s4.heap.objs.size]) ht.typeIs (PyProof.Rows.slot_tuple_getitem.lookup) ?_ (by with_unfolding_all rfl)
  refine getItem_tuple_rev ht (Heap.IsSliceOf.new _ vl vu vs) pl pu ps ?_ (by omega)
  refine ⟨.ref _, _, I5.laid (t' := s4.toks) (o := .tup xs.reverse) (fun b ob q => Heap.get?_push_of_some _ q) (Nat.le_refl _) ?_, rfl, q _ (I5.hok.fresh (Nat.le_refl _))⟩
  exact ⟨by rw [List.length_reverse]; exact hz, _, r.reverse, IsTup.new _ _⟩
/-- len(set(t)) -/
def tLenSetT (K : PySem.W.Frag) (ta : TE) : TE := fun σ H Q => ta σ H fun x H1 => ∃ (l : Addr) (ns ds : List Int), x = .ref l ∧ SqT K H1 l (ns.map V.int) ∧ ns.length ≤ 1000 ∧ ds.Nodup ∧ (∀ k, k ∈ ds ↔ k ∈ ns) ∧ Q (.int (ds.length : Nat)) H1
theorem pe_lenSetT {a : Expr} {ta : TE} {p p2 q pos : Pos} (hg : Gl X "len") (hm : X.mg "len" = none) (hg2 : Gl X "set") (hm2 : X.mg "set" = none) (ha : PE X a ta) (hc : X.calm = true := by rfl)
    (na : starEach [a] X.env = (false, eval a X.env) :: starEach [] X.env := by rfl) : PE X (.Call (.Name "len" p) [.Call (.Name "set" p2) [a] [] q] [] pos) (tLenSetT X.K ta) := by
  refine ⟨fun pins s σ H Q I h => ?_⟩
  refine Call_ (ld_blt I hg hm boot_len ?_)
  refine PyProof.Rows.callWith_builtin1 (PyProof.Rows.args_cons ?_ rfl) rfl rfl
  refine Call_ (ld_blt I hg2 hm2 PyProof.Rows.boot_set ?_)
  refine PyProof.Rows.callWith_type1 (PyProof.Rows.args_cons (thn (ha.run pins s σ H _ I h) fun v s1 ⟨x, H1, I1, r1, q1⟩ => PyProof.Rows.args_nil ?_) na) na rfl
  obtain ⟨l, ns, ds, rfl, hq, hl, hnd, hds, q1⟩ := q1
  cases r1
  obtain ⟨its, r, pt, hz⟩ := I1.tuple hq
  have hi : IntsAre its.toArray.toList ns := ints_of_vals r
  refine call_set_tupI ns (I1.ok.hd hc) (show s1.heap.IsTuple l its.toArray from pt) hi (by unfold scanBound; omega) fun h' tk c R1 hcn hk => ?_
  refine PyProof.Rows.args_nil ?_
  obtain ⟨o, es, ep, t, ho, hex, hd, g, nd, hm3, hb, hf, hn, hr, hl2⟩ := R1
  have I2 : Inv X pins σ H1 { s1 with heap := h', toks := tk } := I1.kept hk
  have hper : ds.Perm (es.toList.map keyOf) := (List.perm_ext_iff_of_nodup hnd nd).mpr fun k => by
    rw [hds k, ← hm3 k, decide_eq_true_eq]
  have hsz : es.size = ds.length := by
    have z := hper.length_eq
    rw [List.length_map, Array.length_toList] at z
    exact z.symm
  have hle : es.size ≤ ns.length := by omega
  exact call_len_set ho hex hd hf (by omega) ⟨.int ds.length, H1, I2.tok _, ⟨_, by rw [hsz]⟩, q1⟩
end
end Fs

/-! t * k, k from 1 on -/
namespace Fs
open PySem PySem.Spec PyProof.Rows L2 HT
theorem tuple_mul1 (l : Addr) (items : Array Value) (n : Nat) (dd : Option Addr) (sl : Array (Option Value)) (u : Tok) :
    Meets (Builtin.«tuple.__mul__» ⟨[.ref l, .int 1 u], []⟩) (fun _ R s => s.heap.get? l = some { cls := .type "tuple", dict := dd, data := .seq items n, slots := sl } ∧ R (.ok (.ret (Value.ref l))) s) :=
  .of_wp fun prog w A R s h => by
    obtain ⟨hp, g, d, tk, os⟩ := s
    obtain ⟨hl, h⟩ := h
    have f1 := AutoSeq1.idx_int
    wp_walk using wpAny_loadPart' hl
    repeat (first
      | (refine wpAny_ite_false (by decide) ?_; wp_walk using wpAny_loadPart' hl)
      | (refine wpAny_ite_true (by simp) ?_; wp_walk using wpAny_loadPart' hl))
    exact ⟨_, rfl, h⟩
def rRepA (K : PySem.W.Frag) : R2 := fun x y H Q => ∃ l k xs, x = .ref l ∧ y = .int k ∧ SqT K H l xs ∧ xs ≠ [] ∧ 1 ≤ k ∧ k ≤ 1000 ∧ xs.length ≤ 1000 ∧ (k = 1 → Q (.ref l) H) ∧ (k ≠ 1 → ∀ p, H p = none → Q (.ref p) (upd H p (.tup (List.replicate k.toNat xs).flatten)))
section
variable {X : Cx}
theorem op_repA : OpR X (binaryOp .Mult) (rRepA X.K) := by
  intro pins s σ H x y v u Q I rx ry h
  obtain ⟨l, k, xs, rfl, rfl, hT, hne, h1, h2, hz, q1, q2⟩ := h
  by_cases e : k = 1
  · subst e
    cases rx
    obtain ⟨t, rfl⟩ := ry
    obtain ⟨its, r, ⟨⟨cls, dd, data, sl⟩, ho, hc, n, hd⟩, hs⟩ := I.tuple hT
    simp only at hc hd
    subst hc hd
    refine wpAny_binaryOp_repeat_ref (T := "tuple") (U := "int") (by decide) ⟨_, ho, rfl⟩ (fun s' => typeIs_int s' 1 t) noFill_tuple_mul F.fills_int_mul F.slot_int_rmul repeat_tuple F.slot_int_index.lookup
      (call_meets F.slot_int_rmul (typeIs_int s 1 t) F.entry_int_rmul (F.args_int_rmul_2 _ _) (int_rmul_tuple 1 t l its.toArray n dd sl)
        ⟨ho, rfl, ⟨_, ho, rfl⟩, call_meets F.slot_tuple_mul ⟨_, ho, rfl⟩ F.entry_tuple_mul (F.args_tuple_mul_2 _ _) (tuple_mul1 l its.toArray n dd sl t) ⟨ho, ?_⟩⟩)
    exact ⟨.ref l, H, I, rfl, q1 rfl⟩
  · exact op_repT pins s σ H _ _ v u Q I rx ry ⟨l, k, xs, rfl, rfl, hT, hne, by omega, h2, hz, q2 e⟩
end
end Fs

/-! defs that make a lambda: their code object is known -/
namespace Fs
open PySem PySem.Spec PyProof.Rows L2
structure CodeAt (K : PySem.W.Frag) (x : Str) (st : Stmt) (f : Addr) (fd : FuncData) (c : Addr) : Prop where
  ex : ∃ (oc : Value) (od : Option Addr) (kV doc pm : Value) (an : Option Addr) (ct : Value) (osl : Array (Option Value)),
    fd = PySem.W.fnOf x x (defArgs st) (defBody st) (defScope st) .none kV doc pm an (.ref c) ct ∧ K.lookup f = some ⟨oc, od, .func fd, osl⟩ ∧ PySem.W.codeIn K (.ref c) x = true
theorem codeAt_mk {K : PySem.W.Frag} {x : Str} {st : Stmt} {f c : Addr} {oc : Value} {od an : Option Addr} {osl : Array (Option Value)} {kV doc pm ct : Value} (l : K.lookup f = some ⟨oc, od, .func (PySem.W.fnOf x x (defArgs st) (defBody st) (defScope st) .none kV doc pm an (.ref c) ct), osl⟩)
    (h : PySem.W.codeIn K (.ref c) x = true) : CodeAt K x st f (PySem.W.fnOf x x (defArgs st) (defBody st) (defScope st) .none kV doc pm an (.ref c) ct) c := ⟨⟨oc, od, kV, doc, pm, an, ct, osl, rfl, l, h⟩⟩
section
variable {P : Program} {w : World} {K : PySem.W.Frag} {mg : Str → Option Value} {base : Heap}
theorem okL {x : Str} {st : Stmt} {f c : Addr} {fd : FuncData} {N ps : List Str} {k : Nat} {sp : Sp} (D : DefAt K mg x st ps f fd) (C : CodeAt K x st f fd c) (S : FnScope N ps (defScope st)) (len : ∀ vs H Q E, sp vs H Q E → vs.length = ps.length)
    (hbody : ∀ (A : Around) (outer : List Env) (s : Shared) (H : Hp) (vs : List V) (Q : VK) (E : XK), Room k (A.deeper (envOfC x (defScope st) s.heap.objs.size f (.ref c))) → sp vs H Q E →
      ∃ t, PSs (cxOf CX0 P w K mg base N x (defScope st) f (.ref c) A outer s H E).nox (defBody st) t ∧ t { nx := fun _ H' => Q .non H', rt := Q } (start N vs) H) : Ok P w K mg base CX0 x (k + 1) ps sp f fd := by
  refine D.mk' ?_
  obtain ⟨oc, od, kV, doc, pm, an, ct, osl, e, lk, hcd⟩ := C.ex
  subst e
  refine fn_of lk hcd S len fun A outer s H vs Q E hr hsp => ?_
  obtain ⟨t, h, q⟩ := hbody A outer s H vs Q E hr hsp
  exact ⟨t, h.nox, q⟩
theorem ps_dead {X : Cx} {st : Stmt} : PS X st (fun _ _ _ => False) := ⟨fun _ _ _ _ _ _ h => h.elim⟩
theorem pss_dead {X : Cx} {st : List Stmt} : PSs X st (fun _ _ _ => False) := ⟨fun _ _ _ _ _ _ h => h.elim⟩
/-- what a lambda of the def x is called -/
abbrev lamQ (x : Str) : Str := x ++ ".<locals>." ++ "<lambda>"
/-- the table of the lambdas that x makes is at P -/
structure LamAt (T : Tabz) (base : Heap) (mg : Str → Option Value) (x : Str) (c P : Addr) : Prop where
  tb : LamX.TabB base mg c P
  m : (P, lamQ x) ∈ T
  u : ∀ p ∈ T, p.1 = P → p.2 = lamQ x
theorem pas_lamB {X : Cx} {T : Tabz} {x : Str} (N fr : List Str) (a : Str) (js : List Nat) (k : Nat) (sc : Scope) {c P : Addr} {params : Arguments} {body : Expr} {scope : Scope} {lpos : Pos} {t : TE} (L : LamAt T X.base X.mg x c P)
    (hbody : ∀ (q : Str) (cl : List (Str × Addr)) (f c' : Addr) (A : Around) (outer : List Env) (s : Shared) (H : Hp), Room k (A.deeper (NdefX.envF (lamF q params scope cl c') f s.heap.objs.size)) → PE (NdefX.ncx CX0 X.prog X.w X.K X.mg X.base N (lamF q params scope cl c') f A outer s H L2.E0).nox body t)
    (hcode : X.env.code = .ref c := by rfl) (hq : X.env.qual = x ++ ".<locals>." := by rfl) (S : NdefX.nscB N [a] fr scope = true := by decide +kernel) (hfree : NdefX.ndefB sc scope fr = true := by decide +kernel) (hsc : X.env.scope = sc := by rfl) (hjs : js.map (fun j => X.N[j]?) = fr.map some := by rfl)
    (hdef : defaultsOf params X.env = ([], []) := by rfl)
    (hb : ∀ (q : Str) (cl : List (Str × Addr)) (u pm cv ctv : Value), bindArgs (PySem.W.kla_fn "<lambda>" q params body scope cl pm cv ctv) ⟨[u], []⟩ = pure [(a, u)] := by intros; rfl) :
    PAs X [.Lambda params body scope lpos] (tLamS X T N js k t) :=
  pas_lam L.tb hcode (by rw [hq]; exact L.m) (by rw [hq]; exact L.u) (NdefX.nscope_by S) (by rw [hsc]; exact NdefX.ndef_free hfree) (NdefX.ndef_fr hfree) hjs hbody hdef hb
/-! ### the fault of a tuple -/
def faultAt (g : V → Bool) : List V → Option Nat
  | [] => none
  | x :: r => if g x then (faultAt g r).map (· + 1) else some 0
theorem faultAt_take {g : V → Bool} {xs : List V} {i : Nat} {x : V} (h : ∀ j y, j < i → xs[j]? = some y → g y = true) (hx : xs[i]? = some x) (hg : g x = false) : faultAt g xs = some i := by
  induction xs generalizing i with
  | nil => simp at hx
  | cons y r ih =>
    cases i with
    | zero =>
      simp at hx
      subst hx
      unfold faultAt
      rw [hg] <;> rfl
    | succ i =>
      have h0 := h 0 y (by omega) rfl
      have e : faultAt g r = some i := ih (fun j z hj hz => h (j + 1) z (by omega) (by simpa using hz)) (by simpa using hx)
      unfold faultAt
      rw [h0, e] <;> rfl
theorem faultAt_none {g : V → Bool} : ∀ {xs : List V}, (∀ y ∈ xs, g y = true) → faultAt g xs = none
  | [], _ => rfl
  | x :: r, h => by
    unfold faultAt
    rw [h x (List.mem_cons_self ..), faultAt_none (fun y hy => h y (List.mem_cons_of_mem _ hy))] <;> rfl
def faultV (lo hi : Int) (g : V → Bool) (xs : List V) : V :=
  if lo ≤ (xs.length : Nat) ∧ ((xs.length : Nat) : Int) ≤ hi then match faultAt g xs with
    | some i => .int (i : Nat)
    | none => .non
  else .int (-1)
/-- the def that looks for the fault of a tuple, and the one that tells whether there is none -/
def spFault (P : Program) (w : World) (K : PySem.W.Frag) (mg : Str → Option Value) (base : Heap) (T : Tabz) (k : Nat) : SpS := fun s vs H Q => ∃ (a f : Addr) (xs : List V) (lo hi : Int) (pre : V → Hp → Prop) (g : V → Bool),
  vs = [.ref a, .int lo, .int hi, .ref f] ∧ H a = some (.tup xs) ∧ xs.length ≤ 1000 ∧ LamX.Tabs T H ∧ CallsB P w K mg base k T s H f pre g ∧ (∀ v ∈ xs, ∀ H', LamX.ExtN H H' → pre v H') ∧ ∀ H', LamX.ExtN H H' → LamX.Tabs T H' → Q (faultV lo hi g xs) H'
def noneV : V → Bool
  | .non => true
  | _ => false
def spFits (P : Program) (w : World) (K : PySem.W.Frag) (mg : Str → Option Value) (base : Heap) (T : Tabz) (k : Nat) : SpS := fun s vs H Q => ∃ (a f : Addr) (xs : List V) (lo hi : Int) (pre : V → Hp → Prop) (g : V → Bool),
  vs = [.ref a, .int lo, .int hi, .ref f] ∧ H a = some (.tup xs) ∧ xs.length ≤ 1000 ∧ LamX.Tabs T H ∧ CallsB P w K mg base k T s H f pre g ∧ (∀ v ∈ xs, ∀ H', LamX.ExtN H H' → pre v H') ∧ ∀ H', LamX.ExtN H H' → LamX.Tabs T H' → Q (.bl (noneV (faultV lo hi g xs))) H'
end
end Fs

/-! forms: the weights of a value, and comprehensions that change nothing -/
namespace Fs
open PySem PySem.Spec PyProof.Rows L2
/-! ### weights -/
/-- the weight of the t-th number in the j-th cell at the point a -/
def W (a : Int) : Nat → Nat → Int
  | 0, t => a ^ t
  | _ + 1, 0 => 0
  | j + 1, t + 1 => a * W a (j + 1) t + W a j t
theorem W_zero {a : Int} : ∀ {j t : Nat}, t < j → W a j t = 0
  | 0, t, h => by omega
  | j + 1, 0, _ => by rw [W]
  | j + 1, t + 1, h => by
    rw [W, W_zero (j := j + 1) (t := t) (by omega), W_zero (j := j) (t := t) (by omega), Int.mul_zero] <;> rfl
def wl (p a : Int) (j n : Nat) : List Int := (List.range n).map fun t => W a j t % p
theorem wl_len {p a : Int} {j n : Nat} : (wl p a j n).length = n := by
  unfold wl
  rw [List.length_map, List.length_range]
theorem wl_get {p a : Int} {j n i : Nat} (h : i < n) : (wl p a j n)[i]? = some (W a j i % p) := by
  unfold wl
  rw [List.getElem?_map, List.getElem?_range h] <;> rfl
theorem wl_succ {p a : Int} {j n : Nat} : wl p a j (n + 1) = wl p a j n ++ [W a j n % p] := by
  unfold wl
  rw [List.range_succ, List.map_append] <;> rfl
theorem mul_mod_l {x y p : Int} : (x % p) * y % p = x * y % p := by rw [Int.mul_emod, Int.emod_emod, ← Int.mul_emod]
theorem W0_next {p a : Int} {t : Nat} : (W a 0 t % p) * a % p = W a 0 (t + 1) % p := by
  rw [mul_mod_l, W, W, Int.pow_succ]
theorem W_next {p a : Int} {j t : Nat} : (a * (W a (j + 1) t % p) + W a j t % p) % p = W a (j + 1) (t + 1) % p := by
  rw [W, Int.add_emod, Int.mul_emod, Int.emod_emod, ← Int.mul_emod, Int.emod_emod, ← Int.add_emod]
/-- the weights that a value is made with -/
def vw (p : Int) (n : Nat) (x : Int) (j : Nat) : List Int := if x = p then (List.range n).map (fun t => if t + j + 1 = n then 1 else 0) else wl p x j n
theorem vw_len {p x : Int} {j n : Nat} : (vw p n x j).length = n := by
  unfold vw
  split
  · rw [List.length_map, List.length_range]
  · exact wl_len
def dotZ : List Int → List Int → Int
  | f :: fs, w :: ws => f * w + dotZ fs ws
  | _, _ => 0
theorem dot_sum : ∀ fs ws : List Int, (List.zipWith (· * ·) fs ws).sum = dotZ fs ws
  | [], _ => by simp [dotZ]
  | _ :: _, [] => by simp [dotZ]
  | f :: fs, w :: ws => by
    rw [List.zipWith_cons_cons, List.sum_cons, dot_sum fs ws] <;> rfl
def valZ (p : Int) (fs : List Int) (x : Int) (j : Nat) : Int := dotZ fs (vw p fs.length x j) % p
theorem valZ_lt {p : Int} {fs : List Int} {x : Int} {j : Nat} (hp : 0 < p) : 0 ≤ valZ p fs x j ∧ valZ p fs x j < p := ⟨Int.emod_nonneg _ (by omega), Int.emod_lt_of_pos _ hp⟩
/-! ### comprehensions over a range that change nothing -/
theorem lc_same {n : Nat} {x : Nat} {te : TE} {vs : List Nat} {σ : L2.St} {H1 : Hp} {D : Addr} {Qd : Hp → Prop} (f : Nat → V) (hn : n ≤ 2000) (hD : H1 D = none) (hw : ∀ v, wipe ((wipe σ vs).set x (some v)) vs = wipe σ vs)
    (hs : ∀ (i : Nat) (H : Hp) (Q : VK), i < n → Same H1 H → (∀ H4, Same H H4 → Q (f i) H4) → te ((wipe σ vs).set x (some (.int (0 + (i : Nat))))) H Q) (hd : ∀ H, Same H1 H → H D = some (.lst ((List.range n).map f)) → Qd H) :
    ∃ W : Nat → Nat → Hp → Prop, (∃ m, W 0 m (upd H1 D (.lst []))) ∧ ∀ i m H, W i m H →
      ((Itr 0 n).stop i H ∧ Qd H) ∨ ((Itr 0 n).go i H ∧ ∃ Nx : Hp → Prop, (∀ H', Nx H' → ∃ m', m' < m ∧ W (i + 1) m' H') ∧ ∀ z H', (Itr 0 n).yld i H z H' → gName x z (wipe σ vs) H' fun σ2 H2 => wipe σ2 vs = wipe σ vs ∧ tYes σ2 H2 fun b H3 =>
        if b = true then te σ2 H3 fun y H4 => ∃ acc, H4 D = some (.lst acc) ∧ acc.length < sizeLine ∧ Nx (upd H4 D (.lst (acc ++ [y]))) else Nx H3) := by
  refine lc_range (lo := 0) (n := n) (g := gName x) (tt := tYes) (fun i H => Same H1 H ∧ H D = some (.lst ((List.range i).map f))) ⟨same_new hD, by rw [upd_same]; rfl⟩ (fun i H hi hp => ?_) (fun H hp => hd H hp.1 hp.2)
  refine ⟨hw _, ?_⟩
  simp only [tYes, if_true]
  refine hs i H _ hi hp.1 fun H4 s4 => ⟨_, s4 _ _ hp.2, ?_, ?_, ?_⟩
  · rw [List.length_map, List.length_range]
    exact small1000' (by omega)
  · intro b o e
    rw [upd_ne (ne_of_none e hD)]
    exact s4 _ _ (hp.1 _ _ e)
  · rw [upd_same, List.range_succ, List.map_append] <;> rfl
where
  small1000' {n : Nat} (h : n ≤ 2000) : n < sizeLine := Nat.lt_of_le_of_lt h (by decide)
/-- over zip of two tuples of one length -/
theorem lc_zipT {K : PySem.W.Frag} {a b : Addr} {xs ys : List V} {g : TG} {tt : TT} {te : TE} {vs : List Nat} {σ : L2.St} {H1 : Hp} {D : Addr} {Qd : Hp → Prop} (hl : xs.length = ys.length) (Pv : Nat → Hp → Prop) (h0 : Pv 0 (upd H1 D (.lst [])))
    (hq : ∀ i H, Pv i H → SqT K H a xs ∧ SqT K H b ys)
    (hs : ∀ i x y T H, xs[i]? = some x → ys[i]? = some y → Pv i H → H T = none → g (.ref T) (wipe σ vs) (upd H T (.tup [x, y])) fun σ2 H2 => wipe σ2 vs = wipe σ vs ∧ tt σ2 H2 fun k H3 =>
      if k = true then te σ2 H3 fun z H4 => ∃ acc, H4 D = some (.lst acc) ∧ acc.length < sizeLine ∧ Pv (i + 1) (upd H4 D (.lst (acc ++ [z]))) else Pv (i + 1) H3) (hd : ∀ H, Pv xs.length H → Qd H) :
    ∃ W : Nat → Nat → Hp → Prop, (∃ m, W 0 m (upd H1 D (.lst []))) ∧ ∀ i m H, W i m H →
      ((RZ.ItzT K a b).stop i H ∧ Qd H) ∨ ((RZ.ItzT K a b).go i H ∧ ∃ Nx : Hp → Prop, (∀ H', Nx H' → ∃ m', m' < m ∧ W (i + 1) m' H') ∧ ∀ x H', (RZ.ItzT K a b).yld i H x H' → g x (wipe σ vs) H' fun σ2 H2 => wipe σ2 vs = wipe σ vs ∧ tt σ2 H2 fun k H3 =>
        if k = true then te σ2 H3 fun z H4 => ∃ acc, H4 D = some (.lst acc) ∧ acc.length < sizeLine ∧ Nx (upd H4 D (.lst (acc ++ [z]))) else Nx H3) := by
  refine ⟨fun i m H => m = xs.length - i ∧ i ≤ xs.length ∧ Pv i H, ⟨xs.length, rfl, Nat.zero_le _, h0⟩, ?_⟩
  rintro i m H ⟨rfl, hi, p⟩
  obtain ⟨qx, qy⟩ := hq i H p
  by_cases hlt : i < xs.length
  · refine .inr ⟨⟨xs, ys, _, _, qx, qy, List.getElem?_eq_getElem hlt, List.getElem?_eq_getElem (show i < ys.length by omega)⟩, Pv (i + 1), fun H' p' => ⟨xs.length - (i + 1), by omega, rfl, hlt, p'⟩, fun v H' y => ?_⟩
    obtain ⟨T, x', y', rfl, hT, rfl, f1, f2⟩ := y
    exact hs i x' y' T H (f1 xs qx) (f2 ys qy) p hT
  · have e : i = xs.length := by omega
    subst e
    exact .inl ⟨⟨xs, ys, qx, qy, .inl (Nat.le_refl _)⟩, hd H p⟩
end Fs
namespace Fs
open PySem PySem.Spec PyProof.Rows L2
theorem cut_init (xs : List V) : cutV xs none (some (-1)) = xs.take (xs.length - 1) := by
  have h1 : HT.sIx xs.length xs.length (some (-1)) = xs.length - 1 := by
    show (if (-1 : Int) < 0 then ((-1 : Int) + (xs.length : Int)).toNat else min (-1 : Int).toNat xs.length) = xs.length - 1
    rw [if_pos (by decide)]
    omega
  unfold cutV
  rw [h1, HT.sIx_none, List.drop_zero, Nat.sub_zero]
theorem wl_one {p a : Int} (h : 2 ≤ p) : wl p a 0 1 = [1] := by
  show [a ^ 0 % p] = [1]
  rw [Int.pow_zero, Int.emod_eq_of_lt (by omega) (by omega)]
theorem wl_one' {p a : Int} {j : Nat} : wl p a (j + 1) 1 = [0] := by
  show [W a (j + 1) 0 % p] = [0]
  rw [W, Int.zero_emod]
theorem wl_zeros {p a : Int} {j n : Nat} (h : n ≤ j) : (wl p a j n).map V.int = (List.replicate n [V.int 0]).flatten := by
  induction n with
  | zero => rfl
  | succ n ih =>
    rw [wl_succ, List.map_append, ih (by omega), W_zero (by omega), Int.zero_emod, List.replicate_succ', List.flatten_append]
    rfl
theorem zw_take {fs ws : List Int} {i : Nat} {x y : Int} (hx : fs[i]? = some x) (hy : ws[i]? = some y) : (List.zipWith (· * ·) fs ws).take (i + 1) = (List.zipWith (· * ·) fs ws).take i ++ [x * y] := by
  rw [List.take_add_one, List.getElem?_zipWith, hx, hy] <;> rfl
end Fs
namespace Fs
open PySem PySem.Spec PyProof.Rows L2
theorem vw_bd {p x : Int} {n j i : Nat} {y : Int} (h : 2 ≤ p) (hy : (vw p n x j)[i]? = some y) : 0 ≤ y ∧ y < p := by
  have hm := List.mem_of_getElem? hy
  unfold vw wl at hm
  split at hm
  · obtain ⟨t, _, rfl⟩ := List.mem_map.mp hm
    split <;> omega
  · obtain ⟨t, _, rfl⟩ := List.mem_map.mp hm
    exact ⟨Int.emod_nonneg _ (by omega), Int.emod_lt_of_pos _ (by omega)⟩
theorem zw_all {fs ws : List Int} (h : fs.length = ws.length) : (List.zipWith (· * ·) fs ws).take fs.length = List.zipWith (· * ·) fs ws := by
  rw [List.take_of_length_le]
  rw [List.length_zipWith]
  omega
end Fs
namespace Fs
open PySem PySem.Spec PyProof.Rows L2
/-! ### readings within a comprehension: the written part is told -/
theorem ix_tupK {X : Cx} (K : PySem.W.Frag) (h : X.K = K := by rfl) : IxR X (rIxT K) := by
  subst h
  exact ix_tup
theorem ix_listK {X : Cx} (K : PySem.W.Frag) (h : X.K = K := by rfl) : IxR X (rIxL K) := by
  subst h
  exact ix_list
end Fs

/-! the law's helpers: comprehensions that draw -/
namespace Fs
open PySem PySem.Spec PyProof.Rows L2
theorem PoolAt.upd {H : Hp} {p l a : Addr} {o : HO} (h : PoolAt H p l) (h1 : a ≠ p) (h2 : a ≠ l) : PoolAt (upd H a o) p l := by
  obtain ⟨n, m, xs, e1, e2, r⟩ := h
  exact ⟨n, m, xs, by rw [upd_ne h1.symm]; exact e1, by rw [upd_ne h2.symm]; exact e2, r⟩
theorem But.new {p l a : Addr} {H H' : Hp} {o : HO} (b : But p l H H') (h : H a = none) : But p l H (upd H' a o) := fun c x h1 h2 e => by
  rw [upd_ne (ne_of_none e h)]
  exact b c x h1 h2 e
theorem But.free {p l c : Addr} {H H' : Hp} (b : But p l H H') (hP : PoolAt H' p l) (h : H' c = none) : H c = none := by
  cases e : H c with
  | none => rfl
  | some o =>
    obtain ⟨h1, h2⟩ := hP.ne h
    rw [b _ _ h1 h2 e] at h
    cases h
theorem lc_pool {n : Nat} {x : Nat} {te : TE} {vs : List Nat} {σ : L2.St} {H1 : Hp} {D p l : Addr} {Qd : Hp → Prop} (Pr : V → Prop) (hn : n ≤ 2000) (hD : H1 D = none) (hP : PoolAt H1 p l) (hw : ∀ v, wipe ((wipe σ vs).set x (some v)) vs = wipe σ vs)
    (hs : ∀ (i : Nat) (H : Hp) (Q : VK), i < n → PoolAt H p l → But p l H1 H → (∀ y H4, Pr y → PoolAt H4 p l → But p l H H4 → Q y H4) → te ((wipe σ vs).set x (some (.int (0 + (i : Nat))))) H Q)
    (hd : ∀ H ys, PoolAt H p l → But p l H1 H → H D = some (.lst ys) → ys.length = n → (∀ y ∈ ys, Pr y) → Qd H) :
    ∃ W : Nat → Nat → Hp → Prop, (∃ m, W 0 m (upd H1 D (.lst []))) ∧ ∀ i m H, W i m H →
      ((Itr 0 n).stop i H ∧ Qd H) ∨ ((Itr 0 n).go i H ∧ ∃ Nx : Hp → Prop, (∀ H', Nx H' → ∃ m', m' < m ∧ W (i + 1) m' H') ∧ ∀ z H', (Itr 0 n).yld i H z H' → gName x z (wipe σ vs) H' fun σ2 H2 => wipe σ2 vs = wipe σ vs ∧ tYes σ2 H2 fun b H3 =>
        if b = true then te σ2 H3 fun y H4 => ∃ acc, H4 D = some (.lst acc) ∧ acc.length < sizeLine ∧ Nx (upd H4 D (.lst (acc ++ [y]))) else Nx H3) := by
  obtain ⟨np, nl⟩ := hP.ne hD
  refine lc_range (lo := 0) (n := n) (g := gName x) (tt := tYes) (fun i H => ∃ ys, PoolAt H p l ∧ But p l H1 H ∧ H D = some (.lst ys) ∧ ys.length = i ∧ ∀ y ∈ ys, Pr y) ⟨[], hP.upd np nl, (But.refl p l H1).new hD, upd_same, rfl, fun y hy => absurd hy (by simp)⟩ (fun i H hi hp => ?_) (fun H hp => ?_)
  · obtain ⟨ys, h1, h2, h3, h4, h5⟩ := hp
    refine ⟨hw _, ?_⟩
    simp only [tYes, if_true]
    refine hs i H _ hi h1 h2 fun y H4 py p4 b4 => ⟨ys, b4 _ _ np nl h3, ?_, ys ++ [y], p4.upd np nl, ?_, upd_same, ?_, ?_⟩
    · exact Nat.lt_of_le_of_lt (show ys.length ≤ 2000 by omega) (by decide)
    · exact (h2.trans b4).new hD
    · rw [List.length_append, h4] <;> rfl
    · intro z hz
      rcases List.mem_append.mp hz with q | q
      · exact h5 z q
      · rw [List.mem_singleton.mp q]
        exact py
  · obtain ⟨ys, h1, h2, h3, h4, h5⟩ := hp
    exact hd H ys h1 h2 h3 h4 h5
theorem seqN {v : Int} {n : Nat} (h0 : 0 ≤ v) (h1 : v < n) : seqIndex? v n = some v.toNat := by
  refine (ixN_seq (n := n) (i := v) (j := v.toNat) ?_).1
  unfold ixN
  rw [if_pos h0, if_pos h1]
theorem ints_of {ys : List V} {Pr : Int → Prop} (h : ∀ y ∈ ys, ∃ i, y = .int i ∧ Pr i) : ∃ ns : List Int, ys = ns.map V.int ∧ ∀ x ∈ ns, Pr x := by
  induction ys with
  | nil => exact ⟨[], rfl, fun x hx => absurd hx (by simp)⟩
  | cons y r ih =>
    obtain ⟨ns, e, f⟩ := ih fun z hz => h z (List.mem_cons_of_mem _ hz)
    obtain ⟨i, ei, pi⟩ := h y (List.mem_cons_self ..)
    refine ⟨i :: ns, by rw [ei, e]; rfl, fun x hx => ?_⟩
    rcases List.mem_cons.mp hx with q | q
    · rw [q]; exact pi
    · exact f x q
/-! ### turned -/
theorem cons_erase : ∀ (ls : List Int) (k : Nat) (h : k < ls.length), (ls[k] :: ls.eraseIdx k).Perm ls
  | [], k, h => absurd h (Nat.not_lt_zero _)
  | a :: r, 0, h => List.Perm.refl _
  | a :: r, k + 1, h => by
    have ih := cons_erase r k (Nat.lt_of_succ_lt_succ h)
    exact (List.Perm.swap a (r[k]'(Nat.lt_of_succ_lt_succ h)) (r.eraseIdx k)).trans (ih.cons a)
theorem map_erase : ∀ (ls : List Int) (k : Nat), (ls.map V.int).eraseIdx k = (ls.eraseIdx k).map V.int
  | [], k => rfl
  | a :: r, 0 => rfl
  | a :: r, k + 1 => by
    show V.int a :: (r.map V.int).eraseIdx k = V.int a :: (r.eraseIdx k).map V.int
    rw [map_erase r k]
theorem turn_perm {ls fs R : List Int} {k : Nat} (hk : k < ls.length) (h : (ls ++ fs).Perm R) : (ls.eraseIdx k ++ (fs ++ [ls[k]])).Perm R := by
  refine List.Perm.trans ?_ h
  rw [← List.append_assoc]
  refine List.Perm.trans List.perm_append_comm ?_
  show (ls[k] :: (ls.eraseIdx k ++ fs)).Perm _
  rw [← List.cons_append]
  exact (cons_erase ls k hk).append_right fs
def ups (n : Nat) : List Int := (List.range n).map fun i => ((i : Nat) : Int)
theorem ups_rg (n : Nat) : rgV 0 (n : Int) = (ups n).map V.int := by
  unfold rgV ups
  rw [List.map_map, show ((n : Int) - 0).toNat = n by omega]
  refine List.map_congr_left fun i _ => ?_
  show V.int (0 + _) = V.int _
  rw [Int.zero_add]
theorem ups_nodup (n : Nat) : (ups n).Nodup := by
  unfold ups
  refine List.Pairwise.map _ (fun a b h => ?_) List.nodup_range
  omega
theorem ups_mem {n : Nat} {x : Int} (h : x ∈ ups n) : 0 ≤ x ∧ x < n := by
  obtain ⟨i, hi, rfl⟩ := List.mem_map.mp h
  have := List.mem_range.mp hi
  omega
theorem ups_len (n : Nat) : (ups n).length = n := by
  unfold ups
  rw [List.length_map, List.length_range]
end Fs

/-! the written-out form; the ground's numbers -/
namespace Fs
open PySem PySem.Spec PyProof.Rows L2
def dW (a : Int) (j : Nat) : List Int → Nat → Int
  | [], _ => 0
  | f :: fs, s => f * W a j s + dW a j fs (s + 1)
theorem dot_dW {p x : Int} {j : Nat} : ∀ (fs : List Int) (s : Nat), dotZ fs ((List.range' s fs.length).map fun t => W x j t % p) % p = dW x j fs s % p
  | [], s => rfl
  | f :: fs, s => by
    have ih := dot_dW (p := p) (x := x) (j := j) fs (s + 1)
    rw [List.length_cons, List.range'_succ, List.map_cons, dotZ, dW, Int.add_emod, ih, Int.mul_emod, Int.emod_emod, ← Int.mul_emod, ← Int.add_emod]
theorem val_dW {p x : Int} {fs : List Int} {j : Nat} (h : x ≠ p) : valZ p fs x j = dW x j fs 0 % p := by
  have e := dot_dW (p := p) (x := x) (j := j) fs 0
  rw [← List.range_eq_range'] at e
  unfold valZ vw wl
  rw [if_neg h]
  exact e
theorem dW_sh0 {a : Int} : ∀ (fs : List Int) (s : Nat), dW a 0 fs (s + 1) = a * dW a 0 fs s
  | [], s => by rw [dW, dW, Int.mul_zero]
  | f :: fs, s => by
    rw [dW, dW, dW_sh0 fs (s + 1), Int.mul_add, W, W, Int.pow_succ, Int.mul_comm (a ^ s) a, Int.mul_left_comm]
theorem dW_sh {a : Int} {j : Nat} : ∀ (fs : List Int) (s : Nat), dW a (j + 1) fs (s + 1) = a * dW a (j + 1) fs s + dW a j fs s
  | [], s => by rw [dW, dW, dW, Int.mul_zero] <;> rfl
  | f :: fs, s => by
    rw [dW, dW, dW, dW_sh fs (s + 1), W, Int.mul_add, Int.mul_add, Int.mul_left_comm]
    omega
theorem dW_cons0 {a f : Int} {fs : List Int} : dW a 0 (f :: fs) 0 = f + a * dW a 0 fs 0 := by
  rw [dW, dW_sh0, W, Int.pow_zero, Int.mul_one]
theorem dW_cons {a f : Int} {j : Nat} {fs : List Int} : dW a (j + 1) (f :: fs) 0 = a * dW a (j + 1) fs 0 + dW a j fs 0 := by
  rw [dW, dW_sh, W, Int.mul_zero, Int.zero_add]
theorem dW_zero {a : Int} {j : Nat} : ∀ (fs : List Int) (s : Nat), s + fs.length ≤ j → dW a j fs s = 0
  | [], s, _ => rfl
  | f :: fs, s, h => by
    rw [List.length_cons] at h
    rw [dW, dW_zero fs (s + 1) (by omega), W_zero (by omega), Int.mul_zero] <;> rfl
/-- the numbers of the form g at the point a -/
def wr (p a : Int) (g : List Int) : List Int := (List.range g.length).map fun j => dW a j g 0 % p
theorem wr_len {p a : Int} {g : List Int} : (wr p a g).length = g.length := by
  unfold wr
  rw [List.length_map, List.length_range]
/-- longer = found + [0] -/
theorem wr_get {p a : Int} {g : List Int} {i : Nat} (h : i ≤ g.length) : (wr p a g ++ [0])[i]? = some (dW a i g 0 % p) := by
  by_cases e : i < g.length
  · rw [List.getElem?_append_left (by rw [wr_len]; exact e)]
    unfold wr
    rw [List.getElem?_map, List.getElem?_range e] <;> rfl
  · have e2 : i = g.length := by omega
    subst e2
    rw [List.getElem?_append_right (by rw [wr_len]; exact Nat.le_refl _), wr_len, Nat.sub_self, dW_zero g 0 (by omega), Int.zero_emod] <;> rfl
/-- the next number, all but the first one's part -/
def nxt (p a : Int) (g : List Int) (i : Nat) : Int := (a * (dW a i g 0 % p) + if i = 0 then 0 else dW a (i - 1) g 0 % p) % p
theorem nxt_first {p a f : Int} {g : List Int} : (nxt p a g 0 + f) % p = dW a 0 (f :: g) 0 % p := by
  unfold nxt
  rw [if_pos rfl, Int.add_zero, dW_cons0, Int.add_emod, Int.emod_emod, Int.mul_emod, Int.emod_emod, ← Int.mul_emod, ← Int.add_emod, Int.add_comm]
theorem nxt_later {p a f : Int} {g : List Int} {i : Nat} : nxt p a g (i + 1) = dW a (i + 1) (f :: g) 0 % p := by
  unfold nxt
  rw [if_neg (Nat.succ_ne_zero i), Nat.add_sub_cancel, dW_cons, Int.add_emod, Int.mul_emod, Int.emod_emod, ← Int.mul_emod, Int.emod_emod, ← Int.add_emod]
theorem wr_next {p a f : Int} {g : List Int} : ((List.range (g.length + 1)).map fun i => nxt p a g i).set 0 ((nxt p a g 0 + f) % p) = wr p a (f :: g) := by
  unfold wr
  rw [List.length_cons, List.range_succ_eq_map, List.map_cons, List.map_cons, List.set_cons_zero, nxt_first, List.map_map, List.map_map]
  congr 1
  exact List.map_congr_left fun i _ => nxt_later
theorem wr_val {p x : Int} {fs : List Int} (h : x ≠ p) : wr p x fs = (List.range fs.length).map fun j => valZ p fs x j := by
  unfold wr
  exact List.map_congr_left fun j _ => (val_dW h).symm
theorem dot_ind : ∀ (fs : List Int) (i : Nat), i < fs.length → dotZ fs ((List.range fs.length).map fun t => if t = i then 1 else 0) = fs.getD i 0
  | [], i, h => absurd h (Nat.not_lt_zero _)
  | f :: fs, 0, h => by
    have z : ∀ (gs : List Int) (n : Nat), dotZ gs ((List.range n).map ((fun t => if t = 0 then (1 : Int) else 0) ∘ Nat.succ)) = 0 := by
      intro gs
      induction gs with
      | nil => intro n; rfl
      | cons g r ih =>
        intro n
        have e : ((List.range n).map ((fun t => if t = 0 then (1 : Int) else 0) ∘ Nat.succ)) = List.replicate n 0 := by
          refine List.eq_replicate_iff.mpr ⟨by rw [List.length_map, List.length_range], fun b hb => ?_⟩
          obtain ⟨t, _, rfl⟩ := List.mem_map.mp hb
          show (if t + 1 = 0 then (1 : Int) else 0) = 0
          exact if_neg (Nat.succ_ne_zero t)
        rw [e]
        have e2 : ∀ (gs : List Int) (n : Nat), dotZ gs (List.replicate n 0) = 0 := by
          intro gs
          induction gs with
          | nil => intro n; cases n <;> rfl
          | cons g r ih =>
            intro n
            cases n with
            | zero => rfl
            | succ n => rw [List.replicate_succ, dotZ, ih n, Int.mul_zero] <;> rfl
        exact e2 _ _
    rw [List.length_cons, List.range_succ_eq_map, List.map_cons, List.map_map, dotZ, z, if_pos rfl, Int.mul_one, Int.add_zero] <;> rfl
  | f :: fs, i + 1, h => by
    have ih := dot_ind fs i (Nat.lt_of_succ_lt_succ h)
    rw [List.length_cons, List.range_succ_eq_map, List.map_cons, List.map_map, dotZ, if_neg (by omega), Int.mul_zero, Int.zero_add]
    have e : (List.range fs.length).map ((fun t => if t = i + 1 then (1 : Int) else 0) ∘ Nat.succ) = (List.range fs.length).map fun t => if t = i then 1 else 0 := by
      refine List.map_congr_left fun t _ => ?_
      show (if t + 1 = i + 1 then (1 : Int) else 0) = _
      simp
    rw [e, ih] <;> rfl
theorem val_inf {p : Int} {fs : List Int} {j : Nat} (h : j < fs.length) : valZ p fs p j = fs.getD (fs.length - 1 - j) 0 % p := by
  unfold valZ vw
  rw [if_pos rfl]
  have e : (List.range fs.length).map (fun t => if t + j + 1 = fs.length then (1 : Int) else 0) = (List.range fs.length).map fun t => if t = fs.length - 1 - j then 1 else 0 := by
    refine List.map_congr_left fun t ht => ?_
    have := List.mem_range.mp ht
    by_cases q : t + j + 1 = fs.length
    · rw [if_pos q, if_pos (by omega)]
    · rw [if_neg q, if_neg (by omega)]
  rw [e, dot_ind fs _ (by omega)]
theorem rev_val {p : Int} {fs : List Int} (h : ∀ x ∈ fs, 0 ≤ x ∧ x < p) : fs.reverse = (List.range fs.length).map fun j => valZ p fs p j := by
  refine List.ext_getElem (by rw [List.length_reverse, List.length_map, List.length_range]) fun i h1 h2 => ?_
  rw [List.length_reverse] at h1
  have hm : fs[fs.length - 1 - i] ∈ fs := List.getElem_mem _
  have := h _ hm
  rw [List.getElem_reverse, List.getElem_map, List.getElem_range, val_inf h1, List.getD_eq_getElem?_getD, List.getElem?_eq_getElem (by omega)]
  exact (Int.emod_eq_of_lt this.1 this.2).symm
/-! ### primes, points -/
def noDivB (n : Int) : Bool := (List.range 256).all fun d => decide ((d : Int) < 2) || decide (n < (d : Int) * d) || decide (n % (d : Int) ≠ 0)
theorem noDiv_by {n : Int} (hn : n < 65536) (h : noDivB n = true) : NoDiv n := fun d d2 dd => by
  have hd := sq_lt dd hn (by omega)
  have hm : d.toNat ∈ List.range 256 := List.mem_range.mpr (by omega)
  have z := List.all_eq_true.mp h _ hm
  have e : ((d.toNat : Nat) : Int) = d := by omega
  rw [e] at z
  simp only [Bool.or_eq_true, decide_eq_true_eq] at z
  rcases z with (z | z) | z
  · omega
  · omega
  · exact z
def lawPrimes : List Int := [2, 3, 5, 7, 2, 3, 5, 7, 11, 13, 32749, 65521]
theorem law_prime {q : Int} (h : q ∈ lawPrimes) : PrimeV (.int q) := by
  have a : lawPrimes.all (fun q => decide (2 ≤ q) && decide (q ≤ 65521) && noDivB q) = true := by decide +kernel
  have z := List.all_eq_true.mp a q h
  simp only [Bool.and_eq_true, decide_eq_true_eq] at z
  exact ⟨z.1.1, z.1.2, noDiv_by (by omega) z.2⟩
def gaps (p b g : Int) (n : Nat) : List Int := (List.range n).map fun i => (b + ((i : Nat) : Int) * g) % (p + 1)
theorem gap_inj {p b g : Int} {i j : Nat} (hp : 0 ≤ p) (hg : 1 ≤ g) (hg2 : g * 8 ≤ p + 1) (hi : i < 8) (hj : j < 8) (e : (b + (i : Int) * g) % (p + 1) = (b + (j : Int) * g) % (p + 1)) : i = j := by
  have d : (p + 1) ∣ (b + (i : Int) * g) - (b + (j : Int) * g) := Int.dvd_of_emod_eq_zero (by rw [Int.sub_emod, e, Int.sub_self, Int.zero_emod])
  have e2 : (b + (i : Int) * g) - (b + (j : Int) * g) = ((i : Int) - j) * g := by rw [Int.sub_mul]; omega
  rw [e2] at d
  have ab : ((i : Int) - j).natAbs ≤ 7 := by omega
  have q : ((i : Int) - j) * g = 0 := by
    refine Int.eq_zero_of_dvd_of_natAbs_lt_natAbs d ?_
    rw [Int.natAbs_mul]
    have : ((i : Int) - j).natAbs * g.natAbs ≤ 7 * g.natAbs := Nat.mul_le_mul_right _ ab
    omega
  rcases Int.mul_eq_zero.mp q with z | z <;> omega
theorem gaps_nodup {p b g : Int} {n : Nat} (hp : 0 ≤ p) (hg : 1 ≤ g) (hg2 : g * 8 ≤ p + 1) (hn : n ≤ 8) : (gaps p b g n).Nodup := by
  unfold gaps
  refine List.pairwise_map.mpr ?_
  refine List.Pairwise.imp_of_mem (fun {a c} ha hc h => ?_) (List.nodup_range (n := n))
  have h1 := List.mem_range.mp ha
  have h2 := List.mem_range.mp hc
  exact fun e => h (gap_inj hp hg hg2 (by omega) (by omega) e)
theorem gaps_mem {p b g x : Int} {n : Nat} (hp : 0 ≤ p) (h : x ∈ gaps p b g n) : 0 ≤ x ∧ x ≤ p := by
  obtain ⟨i, _, rfl⟩ := List.mem_map.mp h
  have h1 := Int.emod_nonneg (b + ((i : Nat) : Int) * g) (show p + 1 ≠ 0 by omega)
  have h2 := Int.emod_lt_of_pos (b + ((i : Nat) : Int) * g) (show 0 < p + 1 by omega)
  omega
theorem set_nodup : ∀ {xs : List Int} {i : Nat} {q : Int}, xs.Nodup → q ∉ xs → (xs.set i q).Nodup
  | [], _, _, h, _ => h
  | x :: r, 0, q, h, hq => by
    rw [List.set_cons_zero]
    rw [List.nodup_cons] at h ⊢
    exact ⟨fun z => hq (List.mem_cons_of_mem _ z), h.2⟩
  | x :: r, i + 1, q, h, hq => by
    rw [List.set_cons_succ]
    rw [List.nodup_cons] at h ⊢
    refine ⟨fun z => ?_, set_nodup h.2 fun z => hq (List.mem_cons_of_mem _ z)⟩
    rcases List.mem_or_eq_of_mem_set z with z | z
    · exact h.1 z
    · exact hq (by rw [z]; exact List.mem_cons_self ..)
end Fs
namespace Fs
open PySem PySem.Spec PyProof.Rows L2
theorem cut_take (xs : List V) {k : Int} (h : 0 ≤ k) : cutV xs none (some k) = xs.take k.toNat := by
  have h1 : HT.sIx xs.length xs.length (some k) = min k.toNat xs.length := by
    show (if k < 0 then _ else min k.toNat xs.length) = _
    rw [if_neg (by omega)]
  unfold cutV
  rw [h1, HT.sIx_none, List.drop_zero, Nat.sub_zero, ← List.take_take, List.take_length]
theorem flat_ints (xs : List Int) : (xs.map V.int).all flatV = true := by
  rw [List.all_map]
  exact List.all_eq_true.mpr fun _ _ => rfl
end Fs
namespace Fs
open PySem PySem.Spec PyProof.Rows L2
theorem inV_ints {z : Int} {pts : List Int} : inV (V.int z) (pts.map V.int) = decide (z ∈ pts) := by
  unfold inV
  rw [List.any_map]
  rw [Bool.eq_iff_iff, List.any_eq_true, decide_eq_true_eq]
  constructor
  · rintro ⟨x, hx, e⟩
    have e2 : x = z := by simpa [eqV] using e
    rw [← e2]
    exact hx
  · intro h
    exact ⟨z, h, by simp [eqV]⟩
end Fs

/-! the end of a law whose defs make lambdas -/
namespace Fs
open PySem PySem.Spec PyProof.Rows L2
theorem TabS.but {H H' : Hp} {P p l : Addr} {q : Str} (t : LamX.TabS H P q) (hP : PoolAt H p l) (b : But p l H H') : LamX.TabS H' P q := by
  obtain ⟨ps, h1, h2, h3⟩ := t
  obtain ⟨u1, u2, u3, e1, e2, _⟩ := hP
  have nt : ∀ c o, H c = some o → (∀ xs, o ≠ .lst xs) → H' c = some o := fun c o e n => b c o (fun z => by rw [z, e1] at e; exact n _ (Option.some.inj e).symm) (fun z => by rw [z, e2] at e; exact n _ (Option.some.inj e).symm) e
  refine ⟨ps, nt _ _ h1 (fun _ z => by cases z), h2, fun pos cv hc => ?_⟩
  obtain ⟨c, e, f⟩ := h3 pos cv hc
  exact ⟨c, e, nt _ _ f (fun xs z => by unfold LamX.CodeO at z; cases z)⟩
theorem Tabs.but {T : Tabz} {H H' : Hp} {p l : Addr} (t : LamX.Tabs T H) (hP : PoolAt H p l) (b : But p l H H') : LamX.Tabs T H' := fun q hq => TabS.but (t q hq) hP b
def spLawT (K : PySem.W.Frag) (TZ : Tabz) : Sp := fun vs H Q _ => ∃ (a : Addr) (ns : List Int), vs = [.ref a] ∧ SqL K H a (ns.map V.int) ∧ ns.length ≤ 63 ∧ LamX.Tabs TZ H ∧ ∀ H', Q (.bl true) H'
theorem law_at {l : PySem.W.OpenLaw} {w : World} {K : PySem.W.Frag} {k : Nat} {mg : Str → Option Value} {fa : Addr} {h : Heap} {ts : List Addr} {fd : FuncData} (cs : List (Addr × Addr)) (qs : List Str) (KX : K.In h) (hT : ∀ P ∈ ts, h.get? P = some (PySem.W.tabObj #[])) (m : (cs.all fun p => ts.contains p.2) = true)
    (n : (cs.all fun p => (K.lookup p.2).isNone) = true) (c : (cs.all fun p => PySem.W.codeHdIn K p.1 p.2) = true) (b : ∀ (s : Shared) (v : Value), BindsTo s fd ⟨[v], []⟩ [("script", v)])
    (F : ∀ base : Heap, K.In base → base.Ns mainGlobals mg → (∀ p ∈ cs, LamX.TabB base mg p.1 p.2) → FnOk l.prog w K mg base CX0 k fa fd ["script"] (spLawT K ((cs.map (·.2)).zip qs))) : LamX.LawAtS l w K CX0 k 63 "script" mg fa h := by
  refine ⟨fd, cs, _, fun p hp => hT _ ?_, fun p hp => ?_, fun p hp => PySem.W.codeHd_of_K KX (List.all_eq_true.mp c p hp), b, fun H a ns hl _ hH hS => ⟨a, ns, rfl, hS, hl, fun q hq => ?_, fun _ => rfl⟩, F⟩
  · have z := List.all_eq_true.mp m p hp
    simpa using z
  · have z := List.all_eq_true.mp n p hp
    cases e : K.lookup p.2 with
    | none => rfl
    | some o => rw [e] at z; cases z
  · obtain ⟨p, hp, e⟩ := List.mem_map.mp (List.of_mem_zip (show (q.1, q.2) ∈ _ from hq)).1
    exact LamX.TabS.nil (by rw [← e]; exact hH p hp)
theorem zip_u : ∀ {Ps : List Addr} {qs : List Str} {P : Addr} {q : Str}, Ps.Nodup → (P, q) ∈ Ps.zip qs → ∀ p ∈ Ps.zip qs, p.1 = P → p.2 = q
  | [], _, _, _, _, hm, _, _, _ => absurd hm (by simp)
  | _ :: _, [], _, _, _, hm, _, _, _ => absurd hm (by simp)
  | a :: r, b :: s, P, q, nd, hm, p, hp, e => by
    rw [List.zip_cons_cons] at hm hp
    have nd2 := List.nodup_cons.mp nd
    rcases List.mem_cons.mp hm with h | h
    · cases h
      rcases List.mem_cons.mp hp with h2 | h2
      · rw [h2]
      · exact absurd (by rw [← e]; exact (List.of_mem_zip (show (p.1, p.2) ∈ _ from h2)).1) nd2.1
    · rcases List.mem_cons.mp hp with h2 | h2
      · rw [h2] at e
        exact absurd (by rw [show a = P from e]; exact (List.of_mem_zip h).1) nd2.1
      · exact zip_u nd2.2 h p h2 e
end Fs

/-! batches scaled and added -/
namespace Fs
open PySem PySem.Spec PyProof.Rows L2
/-! ### added -/
def addL (p w : Int) (xs ys : List Int) : List Int := (List.range xs.length).map fun t => (xs.getD t 0 + w * ys.getD t 0) % p
theorem addL_len {p w : Int} {xs ys : List Int} : (addL p w xs ys).length = xs.length := by
  unfold addL
  rw [List.length_map, List.length_range]
theorem addL_cons {p w x y : Int} {xs ys : List Int} : addL p w (x :: xs) (y :: ys) = (x + w * y) % p :: addL p w xs ys := by
  unfold addL
  rw [List.length_cons, List.range_succ_eq_map, List.map_cons, List.map_map]
  rfl
theorem dot_add {p w : Int} : ∀ (xs ys ws : List Int), xs.length = ys.length → dotZ (addL p w xs ys) ws % p = (dotZ xs ws + w * dotZ ys ws) % p
  | [], [], ws, _ => by
    cases ws <;> simp [addL, dotZ]
  | [], _ :: _, _, h => by simp at h
  | _ :: _, [], _, h => by simp at h
  | x :: xs, y :: ys, [], h => by simp [addL_cons, dotZ]
  | x :: xs, y :: ys, c :: ws, h => by
    have ih := dot_add (p := p) (w := w) xs ys ws (by simpa using h)
    rw [addL_cons, dotZ, dotZ, dotZ, Int.add_emod, ih, mul_mod_l, ← Int.add_emod]
    congr 1
    rw [Int.add_mul, Int.mul_add, Int.mul_assoc]
    omega
theorem val_add {p w x : Int} {xs ys : List Int} {j : Nat} (h : xs.length = ys.length) : valZ p (addL p w xs ys) x j = (valZ p xs x j + w * valZ p ys x j) % p := by
  unfold valZ
  rw [addL_len, dot_add xs ys _ h, h]
  conv => rhs; rw [Int.add_emod, Int.mul_emod, Int.emod_emod, Int.emod_emod, ← Int.mul_emod, ← Int.add_emod]
/-! ### scaled -/
theorem W_scale {c a : Int} : ∀ (j t : Nat), W (c * a) j t * c ^ j = c ^ t * W a j t
  | 0, t => by rw [W, W, Int.pow_zero, Int.mul_one, Int.mul_pow]
  | j + 1, 0 => by rw [W, W, Int.zero_mul, Int.mul_zero]
  | j + 1, t + 1 => by
    have h1 := W_scale (c := c) (a := a) (j + 1) t
    have h2 := W_scale (c := c) (a := a) j t
    have e1 : c * a * W (c * a) (j + 1) t * c ^ (j + 1) = c * a * (W (c * a) (j + 1) t * c ^ (j + 1)) := by rw [Int.mul_assoc]
    have e2 : W (c * a) j t * c ^ (j + 1) = W (c * a) j t * c ^ j * c := by rw [Int.pow_succ, Int.mul_assoc]
    rw [W, W, Int.add_mul, e1, h1, e2, h2, Int.pow_succ, Int.mul_add]
    congr 1
    · rw [Int.mul_comm c a, Int.mul_assoc, Int.mul_left_comm c (c ^ t), Int.mul_left_comm a, Int.mul_left_comm a c, ← Int.mul_assoc (c ^ t) c]
    · rw [Int.mul_assoc, Int.mul_assoc, Int.mul_comm c]
theorem W_mod {p y : Int} : ∀ (j t : Nat), W (y % p) j t % p = W y j t % p
  | 0, t => by
    rw [W, W]
    induction t with
    | zero => rw [Int.pow_zero, Int.pow_zero]
    | succ t ih => rw [Int.pow_succ, Int.pow_succ, Int.mul_emod, ih, Int.emod_emod, ← Int.mul_emod]
  | j + 1, 0 => rfl
  | j + 1, t + 1 => by
    have h1 := W_mod (p := p) (y := y) (j + 1) t
    have h2 := W_mod (p := p) (y := y) j t
    rw [W, W, Int.add_emod, Int.mul_emod, h1, h2, Int.emod_emod, ← Int.mul_emod, ← Int.add_emod]
theorem dW_mod {p y : Int} {j : Nat} : ∀ (fs : List Int) (s : Nat), dW (y % p) j fs s % p = dW y j fs s % p
  | [], _ => rfl
  | f :: fs, s => by
    rw [dW, dW, Int.add_emod, dW_mod fs (s + 1), Int.mul_emod, W_mod, ← Int.mul_emod, ← Int.add_emod]
def scL (p c : Int) (fs : List Int) (s : Nat) : List Int := (List.range fs.length).map fun t => (fs.getD t 0 * (c ^ (s + t) % p)) % p
theorem scL_len {p c : Int} {fs : List Int} {s : Nat} : (scL p c fs s).length = fs.length := by
  unfold scL
  rw [List.length_map, List.length_range]
theorem scL_cons {p c f : Int} {fs : List Int} {s : Nat} : scL p c (f :: fs) s = (f * (c ^ s % p)) % p :: scL p c fs (s + 1) := by
  unfold scL
  rw [List.length_cons, List.range_succ_eq_map, List.map_cons, List.map_map]
  congr 1
  refine List.map_congr_left fun t _ => ?_
  show ((f :: fs).getD (t + 1) 0 * (c ^ (s + (t + 1)) % p)) % p = (fs.getD t 0 * (c ^ (s + 1 + t) % p)) % p
  rw [show s + (t + 1) = s + 1 + t by omega]
  rfl
theorem mul_mod_r {x y p : Int} : x * (y % p) % p = x * y % p := by rw [Int.mul_emod, Int.emod_emod, ← Int.mul_emod]
theorem dW_scale {p c a : Int} {j : Nat} : ∀ (fs : List Int) (s : Nat), dW a j (scL p c fs s) s % p = (dW (c * a) j fs s * c ^ j) % p
  | [], s => by simp [scL, dW]
  | f :: fs, s => by
    have ih := dW_scale (p := p) (c := c) (a := a) (j := j) fs (s + 1)
    have e1 : f * (c ^ s % p) % p * W a j s % p = f * W (c * a) j s * c ^ j % p := by
      rw [mul_mod_l, Int.mul_assoc, Int.mul_left_comm, mul_mod_l, Int.mul_assoc f, W_scale, Int.mul_left_comm]
    rw [scL_cons, dW, dW, Int.add_emod, ih, e1, ← Int.add_emod, Int.add_mul]
theorem val_scale {p c x : Int} {fs : List Int} {j : Nat} (hx : x ≠ p) (hp : 0 < p) : valZ p (scL p c fs 0) x j = (valZ p fs (c * x % p) j * (c ^ j % p)) % p := by
  have h1 : c * x % p ≠ p := by
    have := Int.emod_lt_of_pos (c * x) hp
    omega
  rw [val_dW hx, val_dW h1, dW_scale, dW_mod, mul_mod_r, mul_mod_l]
theorem val_scale_inf {p c : Int} {fs : List Int} {j : Nat} (h : j < fs.length) : valZ p (scL p c fs 0) p j = (valZ p fs p j * (c ^ (fs.length - 1 - j) % p)) % p := by
  rw [val_inf (by rw [scL_len]; exact h), val_inf h, scL_len, mul_mod_r, mul_mod_l]
  have e : (scL p c fs 0).getD (fs.length - 1 - j) 0 = (fs.getD (fs.length - 1 - j) 0 * (c ^ (fs.length - 1 - j) % p)) % p := by
    unfold scL
    rw [List.getD_eq_getElem?_getD, List.getElem?_map, List.getElem?_range (by omega)]
    show (fs.getD (fs.length - 1 - j) 0 * (c ^ (0 + (fs.length - 1 - j)) % p)) % p = _
    rw [Nat.zero_add]
  rw [e, Int.emod_emod, mul_mod_r]
end Fs
namespace Fs
open PySem PySem.Spec PyProof.Rows L2
theorem PoolAt.tup_ne {H : Hp} {p l a : Addr} {xs : List V} (h : PoolAt H p l) (e : H a = some (.tup xs)) : a ≠ p ∧ a ≠ l := by
  obtain ⟨n, m, us, e1, e2, _⟩ := h
  refine ⟨fun z => ?_, fun z => ?_⟩
  · rw [z, e1] at e
    cases e
  · rw [z, e2] at e
    cases e
theorem eqv_ints : ∀ xs : List Int, PyData.eqvAll (xs.map PyData.int) (xs.map PyData.int) = true
  | [] => by simp [PyData.eqvAll]
  | x :: r => by
    have h := eqv_ints r
    simp [PyData.eqvAll, PyData.eqv, h]
theorem neq_ints (xs : List Int) : (!PyData.eqv (.tuple (xs.map PyData.int)) (.tuple (xs.map PyData.int))) = false := by
  have h : PyData.eqv (.tuple (xs.map PyData.int)) (.tuple (xs.map PyData.int)) = true := by
    rw [PyData.eqv]
    exact eqv_ints xs
  rw [h]
  rfl
theorem at_getD {xs : List Int} {i : Nat} (h : i < xs.length) : (xs.map V.int)[i]? = some (V.int (xs.getD i 0)) := by
  rw [List.getElem?_map, List.getD_eq_getElem?_getD, List.getElem?_eq_getElem h]
  rfl
end Fs

/-! points shifted and turned -/
namespace Fs
open PySem PySem.Spec PyProof.Rows L2
def hw (s : Int) (fs : List Int) : List Int := (List.range fs.length).map fun j => dW s j fs 0
theorem hw_len {s : Int} {fs : List Int} : (hw s fs).length = fs.length := by
  unfold hw
  rw [List.length_map, List.length_range]
theorem hw_get {s : Int} {g : List Int} {i : Nat} (h : i ≤ g.length) : (hw s g ++ [0])[i]? = some (dW s i g 0) := by
  by_cases e : i < g.length
  · rw [List.getElem?_append_left (by rw [hw_len]; exact e)]
    unfold hw
    rw [List.getElem?_map, List.getElem?_range e] <;> rfl
  · have e2 : i = g.length := by omega
    subst e2
    rw [List.getElem?_append_right (by rw [hw_len]; exact Nat.le_refl _), hw_len, Nat.sub_self, dW_zero g 0 (by omega)] <;> rfl
theorem hw_cons {s f : Int} {g : List Int} : hw s (f :: g) = List.zipWith (fun a b => s * a + b) (hw s g ++ [0]) (f :: hw s g) := by
  refine List.ext_getElem? fun i => ?_
  rw [List.getElem?_zipWith]
  by_cases h : i ≤ g.length
  · rw [hw_get h]
    unfold hw
    rw [List.getElem?_map, List.length_cons, List.getElem?_range (by omega)]
    cases i with
    | zero =>
      show some (dW s 0 (f :: g) 0) = some (s * dW s 0 g 0 + f)
      rw [dW_cons0, Int.add_comm]
    | succ i =>
      rw [List.getElem?_cons_succ, List.getElem?_map, List.getElem?_range (by omega)]
      show some (dW s (i + 1) (f :: g) 0) = some (s * dW s (i + 1) g 0 + dW s i g 0)
      rw [dW_cons]
  · rw [List.getElem?_eq_none (by rw [hw_len, List.length_cons]; omega), List.getElem?_eq_none (by rw [List.length_append, hw_len]; show g.length + 1 ≤ i; omega)]
theorem dW_zip {x s : Int} {j : Nat} : ∀ (as bs : List Int) (t : Nat), as.length = bs.length → dW x j (List.zipWith (fun a b => s * a + b) as bs) t = s * dW x j as t + dW x j bs t
  | [], [], t, _ => by simp [dW]
  | [], _ :: _, _, h => by simp at h
  | _ :: _, [], _, h => by simp at h
  | a :: as, b :: bs, t, h => by
    rw [List.zipWith_cons_cons, dW, dW, dW, dW_zip as bs (t + 1) (by simpa using h), Int.add_mul, Int.mul_add, Int.mul_assoc]
    omega
theorem dW_app0 {x : Int} {j : Nat} : ∀ (as : List Int) (t : Nat), dW x j (as ++ [0]) t = dW x j as t
  | [], t => by simp [dW]
  | a :: as, t => by rw [List.cons_append, dW, dW, dW_app0 as (t + 1)]
theorem dW_comp {x s : Int} : ∀ (fs : List Int) (j : Nat), dW x j (hw s fs) 0 = dW (x + s) j fs 0
  | [], j => rfl
  | f :: g, j => by
    rw [hw_cons, dW_zip _ _ 0 (by rw [List.length_append, List.length_cons]; rfl), dW_app0]
    cases j with
    | zero =>
      rw [dW_cons0, dW_cons0, dW_comp g 0, Int.add_mul]
      omega
    | succ j =>
      rw [dW_cons, dW_cons, dW_comp g (j + 1), dW_comp g j, Int.add_mul]
      omega
theorem dW_map {p x : Int} {j : Nat} : ∀ (fs : List Int) (t : Nat), dW x j (fs.map (· % p)) t % p = dW x j fs t % p
  | [], t => rfl
  | f :: fs, t => by rw [List.map_cons, dW, dW, Int.add_emod, dW_map fs (t + 1), mul_mod_l, ← Int.add_emod]
theorem wr_hw {p s : Int} {fs : List Int} : wr p s fs = (hw s fs).map (· % p) := by
  unfold wr hw
  rw [List.map_map]
  rfl
theorem val_comp {p x s : Int} {fs : List Int} {j : Nat} (hp : 0 < p) (hx : x ≠ p) : valZ p (wr p s fs) x j = valZ p fs ((x + s) % p) j := by
  have h1 : (x + s) % p ≠ p := by
    have := Int.emod_lt_of_pos (x + s) hp
    omega
  rw [val_dW hx, val_dW h1, wr_hw, dW_map, dW_comp, dW_mod]
theorem W_at0 : ∀ (j t : Nat), W 0 j t = if t = j then 1 else 0
  | 0, 0 => rfl
  | 0, t + 1 => by rw [W, Int.pow_succ, Int.mul_zero, if_neg (Nat.succ_ne_zero t)]
  | j + 1, 0 => by rw [W, if_neg (by omega)]
  | j + 1, t + 1 => by
    rw [W, Int.zero_mul, Int.zero_add, W_at0 j t]
    simp
theorem dW_at0 {j : Nat} : ∀ (fs : List Int) (s : Nat), s ≤ j → dW 0 j fs s = fs.getD (j - s) 0
  | [], s, _ => rfl
  | f :: fs, s, h => by
    rw [dW, W_at0]
    by_cases e : s = j
    · subst e
      have z : ∀ (gs : List Int) (t : Nat), s < t → dW 0 s gs t = 0 := by
        intro gs
        induction gs with
        | nil => intro t _; rfl
        | cons g r ih =>
          intro t ht
          rw [dW, W_at0, if_neg (by omega), ih (t + 1) (by omega), Int.mul_zero] <;> rfl
      rw [if_pos rfl, z fs (s + 1) (by omega), Nat.sub_self, Int.mul_one, Int.add_zero] <;> rfl
    · rw [if_neg e, Int.mul_zero, Int.zero_add, dW_at0 fs (s + 1) (by omega), show j - s = j - (s + 1) + 1 by omega] <;> rfl
theorem row_at0 {p : Int} {fs : List Int} (hp : 0 < p) (h : ∀ x ∈ fs, 0 ≤ x ∧ x < p) : (List.range fs.length).map (fun j => valZ p fs 0 j) = fs := by
  refine List.ext_getElem (by rw [List.length_map, List.length_range]) fun i h1 h2 => ?_
  have := h _ (List.getElem_mem h2)
  rw [List.getElem_map, List.getElem_range, val_dW (by omega), dW_at0 fs 0 (by omega), Nat.sub_zero, List.getD_eq_getElem?_getD, List.getElem?_eq_getElem h2]
  exact Int.emod_eq_of_lt this.1 this.2
end Fs

namespace Lw
open PySem PySem.Spec PyProof.Rows L2 Fs
local macro_rules | `(tactic| walk_at "side") => `(tactic| (first | (exact mulL (by omega) (by omega)) | (exact mulR (by omega) (by omega)) | (exact dvW (by omega) (by omega)) | (show (0 : Int) < _; omega) | (exact ⟨by decide, by decide, by decide⟩)))
local macro_rules | `(tactic| walk_at "rd1") => `(tactic| (first | (refine ⟨_, rfl, ?_⟩) | (refine ⟨_, _, rfl, rfl, ?_⟩) | (refine ⟨rfl, ?_⟩) | (refine ⟨_, _, rfl, ?_⟩) | (refine .inl ⟨_, rfl, ?_⟩) | (refine And.intro (by first | assumption | walk_at "side") ?_) | (refine ⟨_, rfl, (by assumption), ?_⟩) | (refine ⟨_, _, _, _, rfl, rfl, SqL.of (by assumption), rfl, ?_⟩) | (refine ⟨_, _, _, _, rfl, rfl, SqL.of upd_same, rfl, ?_⟩) | (refine ⟨_, _, _, _, rfl, rfl, (by assumption), rfl, ?_⟩) | (refine ⟨_, _, _, _, rfl, rfl, upd_same, rfl, ?_⟩) | (refine ⟨_, _, rfl, .inl (by assumption), ?_⟩) | (refine ⟨_, _, rfl, .inl (SqL.of (by assumption)), ?_⟩) | (refine ⟨_, _, rfl, .inr (SqT.of (by assumption)), ?_⟩) | (refine ⟨_, _, _, _, rfl, rfl, SqT.of (by assumption), rfl, ?_⟩) | (refine ⟨_, _, _, _, _, rfl, .ty _, (by assumption), (by assumption), ?_⟩) | (refine ⟨.inl ⟨rfl, _, SqL.of (by assumption)⟩, ?_⟩)))
local macro_rules | `(tactic| walk_at "rd") => `(tactic| (repeat walk_at "rd1"))

def topS (i : Nat) : Stmt := PySem.Challenge.pw_firstsafe_k25_points_shifted_and_turned.main.body.getD i (.Pass ⟨0, 0, 0, 0⟩)
abbrev s_is_number : Stmt := topS 7
abbrev N_is_number : List Str := ["thing"]
theorem sc_is_number : FnScope N_is_number ["thing"] (defScope s_is_number) := ⟨rfl, rfl, rfl, by decide +kernel, rfl, by decide +kernel, by decide +kernel⟩
abbrev s_number_between : Stmt := topS 8
abbrev N_number_between : List Str := ["thing", "least", "most"]
theorem sc_number_between : FnScope N_number_between ["thing", "least", "most"] (defScope s_number_between) := ⟨rfl, rfl, rfl, by decide +kernel, rfl, by decide +kernel, by decide +kernel⟩
abbrev s_tuple_fault : Stmt := topS 9
abbrev N_tuple_fault : List Str := ["thing", "least", "most", "fits", "index", "item"]
theorem sc_tuple_fault : FnScope N_tuple_fault ["thing", "least", "most", "fits"] (defScope s_tuple_fault) := ⟨rfl, rfl, rfl, by decide +kernel, rfl, by decide +kernel, by decide +kernel⟩
abbrev s_tuple_fits : Stmt := topS 10
abbrev N_tuple_fits : List Str := ["thing", "least", "most", "fits"]
theorem sc_tuple_fits : FnScope N_tuple_fits ["thing", "least", "most", "fits"] (defScope s_tuple_fits) := ⟨rfl, rfl, rfl, by decide +kernel, rfl, by decide +kernel, by decide +kernel⟩
abbrev s_is_prime : Stmt := topS 16
abbrev N_is_prime : List Str := ["n", "divisor"]
theorem sc_is_prime : FnScope N_is_prime ["n"] (defScope s_is_prime) := ⟨rfl, rfl, rfl, by decide +kernel, rfl, by decide +kernel, by decide +kernel⟩
abbrev s_points_fit : Stmt := topS 18
abbrev N_points_fit : List Str := ["p", "thing"]
theorem sc_points_fit : FnScope N_points_fit ["p", "thing"] (defScope s_points_fit) := ⟨rfl, rfl, rfl, by decide +kernel, rfl, by decide +kernel, by decide +kernel⟩
abbrev s_ground_fault : Stmt := topS 19
abbrev N_ground_fault : List Str := ["thing"]
theorem sc_ground_fault : FnScope N_ground_fault ["thing"] (defScope s_ground_fault) := ⟨rfl, rfl, rfl, by decide +kernel, rfl, by decide +kernel, by decide +kernel⟩
abbrev s_made_ground : Stmt := topS 20
abbrev N_made_ground : List Str := ["thing", "fault"]
theorem sc_made_ground : FnScope N_made_ground ["thing"] (defScope s_made_ground) := ⟨rfl, rfl, rfl, by decide +kernel, rfl, by decide +kernel, by decide +kernel⟩
abbrev s_batch_fault : Stmt := topS 21
abbrev N_batch_fault : List Str := ["ground", "thing", "p", "k", "_"]
theorem sc_batch_fault : FnScope N_batch_fault ["ground", "thing"] (defScope s_batch_fault) := ⟨rfl, rfl, rfl, by decide +kernel, rfl, by decide +kernel, by decide +kernel⟩
abbrev s_made_batch : Stmt := topS 22
abbrev N_made_batch : List Str := ["ground", "thing", "fault"]
theorem sc_made_batch : FnScope N_made_batch ["ground", "thing"] (defScope s_made_batch) := ⟨rfl, rfl, rfl, by decide +kernel, rfl, by decide +kernel, by decide +kernel⟩
abbrev s_powers : Stmt := topS 24
abbrev N_powers : List Str := ["p", "a", "many", "found", "_"]
theorem sc_powers : FnScope N_powers ["p", "a", "many"] (defScope s_powers) := ⟨rfl, rfl, rfl, by decide +kernel, rfl, by decide +kernel, by decide +kernel⟩
abbrev s_later_weights : Stmt := topS 25
abbrev N_later_weights : List Str := ["p", "point", "weights", "found", "weight"]
theorem sc_later_weights : FnScope N_later_weights ["p", "point", "weights"] (defScope s_later_weights) := ⟨rfl, rfl, rfl, by decide +kernel, rfl, by decide +kernel, by decide +kernel⟩
abbrev s_value_weights : Stmt := topS 26
abbrev N_value_weights : List Str := ["p", "many", "point", "j", "weights", "_", "t"]
theorem sc_value_weights : FnScope N_value_weights ["p", "many", "point", "j"] (defScope s_value_weights) := ⟨rfl, rfl, rfl, by decide +kernel, rfl, by decide +kernel, by decide +kernel⟩
abbrev s_value : Stmt := topS 27
abbrev N_value : List Str := ["p", "form", "point", "j", "weights", "a", "weight"]
theorem sc_value : FnScope N_value ["p", "form", "point", "j"] (defScope s_value) := ⟨rfl, rfl, rfl, by decide +kernel, rfl, by decide +kernel, by decide +kernel⟩
abbrev s_point_of : Stmt := topS 29
abbrev N_point_of : List Str := ["ground", "shelf", "points"]
theorem sc_point_of : FnScope N_point_of ["ground", "shelf"] (defScope s_point_of) := ⟨rfl, rfl, rfl, by decide +kernel, rfl, by decide +kernel, by decide +kernel⟩
abbrev s_cell : Stmt := topS 30
abbrev N_cell : List Str := ["ground", "batch", "shelf", "j", "point"]
theorem sc_cell : FnScope N_cell ["ground", "batch", "shelf", "j"] (defScope s_cell) := ⟨rfl, rfl, rfl, by decide +kernel, rfl, by decide +kernel, by decide +kernel⟩
abbrev s_row : Stmt := topS 31
abbrev N_row : List Str := ["ground", "batch", "shelf", "many", "point", "j"]
theorem sc_row : FnScope N_row ["ground", "batch", "shelf", "many"] (defScope s_row) := ⟨rfl, rfl, rfl, by decide +kernel, rfl, by decide +kernel, by decide +kernel⟩
abbrev s__law_pool : Stmt := topS 33
abbrev N__law_pool : List Str := ["script", "first", "size"]
theorem sc__law_pool : FnScope N__law_pool ["script"] (defScope s__law_pool) := ⟨rfl, rfl, rfl, by decide +kernel, rfl, by decide +kernel, by decide +kernel⟩
abbrev s__law_draw : Stmt := topS 34
abbrev N__law_draw : List Str := ["pool", "many", "first", "size", "found"]
theorem sc__law_draw : FnScope N__law_draw ["pool", "many"] (defScope s__law_draw) := ⟨rfl, rfl, rfl, by decide +kernel, rfl, by decide +kernel, by decide +kernel⟩
abbrev s__law_pick : Stmt := topS 35
abbrev N__law_pick : List Str := ["pool", "things"]
theorem sc__law_pick : FnScope N__law_pick ["pool", "things"] (defScope s__law_pick) := ⟨rfl, rfl, rfl, by decide +kernel, rfl, by decide +kernel, by decide +kernel⟩
abbrev s__law_is_whole : Stmt := topS 36
abbrev N__law_is_whole : List Str := ["thing"]
theorem sc__law_is_whole : FnScope N__law_is_whole ["thing"] (defScope s__law_is_whole) := ⟨rfl, rfl, rfl, by decide +kernel, rfl, by decide +kernel, by decide +kernel⟩
abbrev s__law_turned : Stmt := topS 37
abbrev N__law_turned : List Str := ["pool", "many", "left", "found", "turn"]
theorem sc__law_turned : FnScope N__law_turned ["pool", "many"] (defScope s__law_turned) := ⟨rfl, rfl, rfl, by decide +kernel, rfl, by decide +kernel, by decide +kernel⟩
abbrev s__law_ground : Stmt := topS 38
abbrev N__law_ground : List Str := ["pool", "most", "many", "p", "count", "points", "begin", "gap", "at"]
theorem sc__law_ground : FnScope N__law_ground ["pool", "most", "many"] (defScope s__law_ground) := ⟨rfl, rfl, rfl, by decide +kernel, rfl, by decide +kernel, by decide +kernel⟩
abbrev s__law_batch : Stmt := topS 39
abbrev N__law_batch : List Str := ["pool", "ground", "p", "k", "points", "place", "at"]
theorem sc__law_batch : FnScope N__law_batch ["pool", "ground"] (defScope s__law_batch) := ⟨rfl, rfl, rfl, by decide +kernel, rfl, by decide +kernel, by decide +kernel⟩
abbrev s__law_lengths : Stmt := topS 40
abbrev N__law_lengths : List Str := ["pool", "ground", "most", "point"]
theorem sc__law_lengths : FnScope N__law_lengths ["pool", "ground", "most"] (defScope s__law_lengths) := ⟨rfl, rfl, rfl, by decide +kernel, rfl, by decide +kernel, by decide +kernel⟩
abbrev s__law_written_out : Stmt := topS 41
abbrev N__law_written_out : List Str := ["p", "form", "point", "found", "number", "longer", "at"]
theorem sc__law_written_out : FnScope N__law_written_out ["p", "form", "point"] (defScope s__law_written_out) := ⟨rfl, rfl, rfl, by decide +kernel, rfl, by decide +kernel, by decide +kernel⟩
abbrev s__law_cell : Stmt := topS 42
abbrev N__law_cell : List Str := ["ground", "batch", "shelf", "j", "numbers"]
theorem sc__law_cell : FnScope N__law_cell ["ground", "batch", "shelf", "j"] (defScope s__law_cell) := ⟨rfl, rfl, rfl, by decide +kernel, rfl, by decide +kernel, by decide +kernel⟩
abbrev s__law_times : Stmt := topS 43
abbrev N__law_times : List Str := ["p", "f", "g", "found", "i", "one", "j", "other"]
theorem sc__law_times : FnScope N__law_times ["p", "f", "g"] (defScope s__law_times) := ⟨rfl, rfl, rfl, by decide +kernel, rfl, by decide +kernel, by decide +kernel⟩
abbrev s__law_line : Stmt := topS 44
abbrev N__law_line : List Str := ["p", "point"]
theorem sc__law_line : FnScope N__law_line ["p", "point"] (defScope s__law_line) := ⟨rfl, rfl, rfl, by decide +kernel, rfl, by decide +kernel, by decide +kernel⟩
abbrev s__law_product : Stmt := topS 45
abbrev N__law_product : List Str := ["ground", "lengths", "found", "shelf", "length", "turn"]
theorem sc__law_product : FnScope N__law_product ["ground", "lengths"] (defScope s__law_product) := ⟨rfl, rfl, rfl, by decide +kernel, rfl, by decide +kernel, by decide +kernel⟩
abbrev s__law_moved : Stmt := topS 46
abbrev N__law_moved : List Str := ["ground", "batch", "shift"]
theorem sc__law_moved : FnScope N__law_moved ["ground", "batch", "shift"] (defScope s__law_moved) := ⟨rfl, rfl, rfl, by decide +kernel, rfl, by decide +kernel, by decide +kernel⟩
abbrev s_law : Stmt := topS 47
abbrev N_law : List Str := ["script", "pool", "ground", "p", "k", "points", "batch", "shift", "moved", "both", "shelf", "point", "other", "j"]
theorem sc_law : FnScope N_law ["script"] (defScope s_law) := ⟨rfl, rfl, rfl, by decide +kernel, rfl, by decide +kernel, by decide +kernel⟩
abbrev s_Refused___init__ : Stmt := inClass (topS 1) 0
theorem sc_Refused___init__ : FnScope ["self", "what"] ["self", "what"] (defScope s_Refused___init__) := ⟨rfl, rfl, rfl, by decide +kernel, rfl, by decide +kernel, by decide +kernel⟩
structure Txt (K : PySem.W.Frag) (mg : Str → Option Value) : Prop where
  b_len : mg "len" = none
  b_int : mg "int" = none
  b_list : mg "list" = none
  b_tuple : mg "tuple" = none
  b_range : mg "range" = none
  b_zip : mg "zip" = none
  b_enumerate : mg "enumerate" = none
  b_isinstance : mg "isinstance" = none
  b_bool : mg "bool" = none
  b_min : mg "min" = none
  b_sum : mg "sum" = none
  b_set : mg "set" = none
  b_ValueError : mg "ValueError" = none
  c_MOST_PRIME : ∃ t, mg "MOST_PRIME" = some (.int 65521 t)
  c_MOST_NUMBERS : ∃ t, mg "MOST_NUMBERS" = some (.int 12 t)
  c_MOST_SHELVES : ∃ t, mg "MOST_SHELVES" = some (.int 8 t)
  c_MOST_CELLS : ∃ t, mg "MOST_CELLS" = some (.int 1024 t)
section
variable {P : Program} {w : World} {K : PySem.W.Frag} {mg : Str → Option Value} {base : Heap}
theorem ok_is_number {f : Addr} {fd : FuncData} (D : DefAt K mg "is_number" s_is_number ["thing"] f fd) (T : Txt K mg) : Ok P w K mg base CX0 "is_number" 1 ["thing"] (spWhole K) f fd := by
  refine D.mk' (D.F.ok sc_is_number (fun vs H Q E h => ?_) (fun cdv A outer s H vs Q E hr h => ?_))
  · obtain ⟨v, rfl, _⟩ := h
    rfl
  · obtain ⟨v, rfl, hk, q⟩ := h
    obtain ⟨t, ht, k1, k2⟩ := isi_int hk
    refine ⟨_, pss_one (ps_ret (pe_and (pe_callB call_isi rfl T.b_isinstance (by decide +kernel) (pa_cons (pv 0) (pa_cons (pe_bltn (v := .ty "int") (u := .type "int") rfl T.b_int (by decide +kernel) rfl) pa_nil))) (pe_one (pe_not (pe_callB call_isi rfl T.b_isinstance (by decide +kernel) (pa_cons (pv 0) (pa_cons (pe_bltn (v := .ty "bool") (u := .type "bool") rfl T.b_bool (by decide +kernel) rfl) pa_nil))))))), ?_⟩
    walk_at "rd"
    refine ite2 (fun e => ?_) (fun e => ?_)
    · walk_at "rd"
      cases v <;> first | exact q | cases e
    · cases v <;> first | exact q | exact absurd rfl e
theorem ok_number_between {f f1 : Addr} {fd fd1 : FuncData} (D : DefAt K mg "number_between" s_number_between ["thing", "least", "most"] f fd) (T : Txt K mg) (G_is_number : Ok P w K mg base CX0 "is_number" 1 ["thing"] (spWhole K) f1 fd1) :
    Ok P w K mg base CX0 "number_between" 2 ["thing", "least", "most"] (spBetween K) f fd := by
  refine D.mk' (D.F.ok sc_number_between (fun vs H Q E h => ?_) (fun cdv A outer s H vs Q E hr h => ?_))
  · obtain ⟨v, lo, hi, rfl, _⟩ := h
    rfl
  · obtain ⟨v, lo, hi, rfl, hk, q⟩ := h
    refine ⟨_, pss_one (ps_ret (pe_and (pe_call G_is_number.ok (hr.mono (by decide)) rfl G_is_number.g G_is_number.k G_is_number.b .nil pass0 (pa_cons (pv 0) pa_nil)) (pe_one (pe_chain op_le op_le (pv 1) (pv 0) (pv 2))))), ?_⟩
    walk_at "rd"
    refine ite2 (fun e => ?_) (fun e => ?_)
    · cases v with
      | int n =>
        walk_at "rd"
        refine ite2 (fun e => ?_) (fun e => ?_)
        · walk_at "rd"
          have q2 : Q (.bl (decide (lo ≤ n) && decide (n ≤ hi))) H := q
          rw [e, Bool.true_and] at q2
          exact q2
        · have q2 : Q (.bl (decide (lo ≤ n) && decide (n ≤ hi))) H := q
          have e2 : decide (lo ≤ n) = false := by simpa using e
          rw [e2, Bool.false_and] at q2
          exact q2
      | _ => cases e
    · cases v with
      | int n => exact absurd rfl e
      | _ => exact q
theorem ok_is_prime {f f1 : Addr} {fd fd1 : FuncData} (D : DefAt K mg "is_prime" s_is_prime ["n"] f fd) (T : Txt K mg) (G_number_between : Ok P w K mg base CX0 "number_between" 2 ["thing", "least", "most"] (spBetween K) f1 fd1) :
    Ok P w K mg base CX0 "is_prime" 3 ["n"] (spIsPrime K) f fd := by
  refine D.mk' (D.F.ok sc_is_prime (fun vs H Q E h => ?_) (fun cdv A outer s H vs Q E hr h => ?_))
  · obtain ⟨v, rfl, _⟩ := h
    rfl
  · obtain ⟨v, rfl, hk, q⟩ := h
    obtain ⟨_, h_MOST_PRIME⟩ := T.c_MOST_PRIME
    refine ⟨_, pss_cons (ps_if (pt_not (pt_val (pe_call G_number_between.ok (hr.mono (by decide)) rfl G_number_between.g G_number_between.k G_number_between.b .nil pass0 (pa_cons (pv 0) (pa_cons pe_int (pa_cons (pe_glob (v := .int 65521) rfl h_MOST_PRIME ⟨_, rfl⟩) pa_nil)))))) (pss_one (ps_ret pe_bl)) (pss_nil))
      (pss_cons (ps_set (i := 1) sc_is_prime.nd rfl (Or.inl rfl) pe_int)
      (pss_cons (ps_while PassesOwn.never (pt_cmpR op_le (pe_op op_mulB (pv 1) (pv 1)) (pv 0) (nomark _)) (pss_cons (ps_if (pt_cmpR op_eq (pe_op op_mod (pv 0) (pv 1)) pe_int (nomark _)) (pss_one (ps_ret pe_bl)) (pss_nil))
      (pss_one (ps_aug (i := 1) sc_is_prime.nd rfl (Or.inl rfl) pe_int ip_add))))
      (pss_one (ps_ret pe_bl)))), ?_⟩
    walk_at "rd"
    refine ⟨v, 2, 65521, rfl, hk, ?_⟩
    walk_at "rd"
    refine ite2 (fun e => ?_) (fun e => ?_)
    · refine q false ⟨fun z => (Bool.noConfusion z), fun z => ?_⟩
      cases v with
      | int n =>
        obtain ⟨z1, z2, _⟩ := z
        have e2 : betV 2 65521 (.int n) = true := by
          show (decide (2 ≤ n) && decide (n ≤ 65521)) = true
          rw [decide_eq_true z1, decide_eq_true z2]
          rfl
        rw [e2] at e
        cases e
      | _ => exact z.elim
    · cases v with
      | int n =>
        have e2 : betV 2 65521 (.int n) = true := by simpa using e
        have e3 : (decide (2 ≤ n) && decide (n ≤ 65521)) = true := e2
        rw [Bool.and_eq_true, decide_eq_true_eq, decide_eq_true_eq] at e3
        obtain ⟨n2, n3⟩ := e3
        walk_at "rd"
        refine ⟨fun m σ' H' => ∃ d : Int, 2 ≤ d ∧ d ≤ 70000 ∧ σ' = [some (.int n), some (.int d)] ∧ H' = H ∧ (∀ e, 2 ≤ e → e < d → n % e ≠ 0) ∧ m = (70000 - d).toNat, ⟨_, 2, by omega, by omega, rfl, rfl, fun e h1 h2 => by omega, rfl⟩, ?_⟩
        rintro m σ' H' ⟨d, d2, d3, rfl, rfl, hd, rfl⟩
        walk_at "rd"
        refine ite2 (fun e => ?_) (fun e => ?_)
        · have ed : d * d ≤ n := of_decide_eq_true e
          have d256 := sq_lt ed (by omega) (by omega)
          refine ⟨fun σ' H2 => Mid (σ' = [some (.int n), some (.int (d + 1))] ∧ H2 = H' ∧ n % d ≠ 0), fun σ' H2 m => ?_, ?_⟩
          · obtain ⟨rfl, rfl, hm⟩ := m.out
            exact ⟨_, by omega, d + 1, by omega, by omega, rfl, rfl, fun e h1 h2 => if h : e = d then h ▸ hm else hd e h1 (by omega), rfl⟩
          · walk_at "rd"
            refine ite2 (fun e => ?_) (fun e => ?_)
            · have em : n % d = 0 := V.int.inj (of_decide_eq_true e)
              exact q false ⟨fun z => Bool.noConfusion z, fun z => absurd em (z.2.2 d d2 ed)⟩
            · walk_at "rd"
              exact .mk ⟨rfl, rfl, fun z => e (by rw [show ((fun i j => V.int (i % j)) n d : V) = V.int (n % d) from rfl, z]; rfl)⟩
        · have ed : ¬ d * d ≤ n := fun z => e (decide_eq_true z)
          refine q true ⟨fun _ => ⟨n2, n3, fun a a2 ha => ?_⟩, fun _ => rfl⟩
          by_cases had : a < d
          · exact hd a a2 had
          · have := sq_le (by omega : (0 : Int) ≤ d) (by omega : d ≤ a)
            omega
      | _ => exact absurd rfl e
theorem seq0 {α : Type} (x : α) (r : List α) : seqIndex? 0 (x :: r).length = some 0 := by
  unfold seqIndex?
  simp
theorem ok__law_draw {f : Addr} {fd : FuncData} (D : DefAt K mg "_law_draw" s__law_draw ["pool", "many"] f fd) (T : Txt K mg) : Ok P w K mg base CX0 "_law_draw" 1 ["pool", "many"] spDraw f fd := by
  refine D.mk' (D.F.ok sc__law_draw (fun vs H Q E h => ?_) (fun cdv A outer s H vs Q E hr h => ?_))
  · obtain ⟨p, l, many, rfl, _⟩ := h
    rfl
  · obtain ⟨p, l, many, rfl, ⟨n, m, xs, hp, hl, npl, n0, m0, m1, hx⟩, h1, h2, q⟩ := h
    refine ⟨_, C8.pss_cut (ps_if (PW.pt (pw_and (pt_cmpR op_eq (pe_ix ix_list (pv 0) pe_int (fun _ _ => rfl)) pe_int (nomark _)) (pw_and1 (pt_cmpR (op_neD hr.units) (pe_ix ix_list (pv 0) pe_int (fun _ _ => rfl)) (pe_lst pa_nil) (nomark _))))) (pss_cons (ps_set (i := 2) sc__law_draw.nd rfl (Or.inl rfl) (pe_callTy call_int1 rfl T.b_int (by decide +kernel) (pa_cons (pe_bm PySem.F.plainAttrs_list PySem.F.slot_list_pop PySem.F.type_list_pop mt_popAt (pe_ix ix_list (pv 0) pe_int (fun _ _ => rfl)) (pa_cons pe_int pa_nil)) pa_nil)))
      (C8.pss_cut (ps_set (i := 3) sc__law_draw.nd rfl (Or.inl rfl) (pe_ifExp (pt_cmpR op_ge (pv 2) pe_int (nomark _)) (pe_op op_mulB pe_int (pv 2)) (pe_op op_sub (pe_un un_neg pe_int) (pe_op op_mulB pe_int (pv 2)))))
      (C8.pss_cut (ps_asg (pe_ifExp (pt_cmpR op_ge (pv 3) (pe_op op_pow pe_int pe_int) (nomark _)) (pv 3) pe_int) (pg_sub (pv 0) pe_int set_list))
      (pss_one (ps_asg (pe_op op_add (pe_op op_mod (pe_callTy call_int1 rfl T.b_int (by decide +kernel) (pa_cons (pe_op op_add (pe_ix ix_list (pv 0) pe_int (fun _ _ => rfl)) (pe_op op_mulB (pv 3) pe_int)) pa_nil)) pe_int) pe_int) (pg_sub (pv 0) pe_int set_list)))))) (pss_nil))
      (pss_cons (ps_if (pt_cmpR op_gt (pe_ix ix_list (pv 0) pe_int (fun _ _ => rfl)) pe_int (nomark _)) (pss_cons (ps_set (i := 4) sc__law_draw.nd rfl (Or.inl rfl) (pe_op op_mod (pe_callTy call_int1 rfl T.b_int (by decide +kernel) (pa_cons (pe_ix ix_list (pv 0) pe_int (fun _ _ => rfl)) pa_nil)) (pv 1)))
      (pss_cons (ps_asg (pe_op op_fdivW (pe_ix ix_list (pv 0) pe_int (fun _ _ => rfl)) (pv 1)) (pg_sub (pv 0) pe_int set_list))
      (pss_one (ps_ret (pv 4))))) (pss_nil))
      (pss_cons (ps_asg (pe_op op_mod (pe_callTy call_int1 rfl T.b_int (by decide +kernel) (pa_cons (pe_op op_add (pe_op op_mulB (pe_ix ix_list (pv 0) pe_int (fun _ _ => rfl)) pe_int) pe_int) pa_nil)) pe_int) (pg_sub (pv 0) pe_int set_list))
      (pss_one (ps_ret (pe_op op_mod (pe_op op_fdivW (pe_op op_mod (pe_callTy call_int1 rfl T.b_int (by decide +kernel) (pa_cons (pe_op op_mulB (pe_ix ix_list (pv 0) pe_int (fun _ _ => rfl)) (pe_ix ix_list (pv 0) pe_int (fun _ _ => rfl))) pa_nil)) pe_int) pe_int) (pv 1)))))), ?_⟩
    refine ⟨fun σ' H1 => Mid (∃ y2 y3, σ' = [some (.ref p), some (.int many), y2, y3, none] ∧ PoolAt H1 p l ∧ But p l H H1), ?_, ?_⟩
    · walk_at "rd"
      refine ite2 (fun e => ?_) (fun e => ?_)
      · walk_at "rd"
        refine ⟨Nat.zero_le _, fun z hz => ?_⟩
        have nzp : p ≠ z := ne_of_none hp hz
        have nzl : l ≠ z := ne_of_none hl hz
        have hp1 : upd H z (.lst []) p = some (.lst [.int n, .int m, .ref l]) := by rw [upd_ne nzp]; exact hp
        have hl1 : upd H z (.lst []) l = some (.lst (xs.map V.int)) := by rw [upd_ne nzl]; exact hl
        refine ⟨.list (xs.map PyData.int), .list [], .lst (SqL.of hl1) (dp_ints xs), .lst (SqL.of upd_same) .nil, shaped_ints xs, shaped_nil, ?_⟩
        walk_at "rd"
        rcases list_new xs with rfl | ⟨x, r, rfl⟩
        · rw [eqv_nil_nil]
          exact iteF (Mid.mk ⟨none, none, rfl, ⟨n, m, [], hp1, hl1, npl, n0, m0, m1, hx⟩, Same.but (same_new hz)⟩)
        · rw [eqv_cons_nil]
          refine iteT ?_
          walk_at "rd"
          refine ⟨_, _, _, 0, V.int x, rfl, rfl, hl1, by decide, by decide, seq0 _ _, rfl, ?_⟩
          walk_at "rd"
          have hp2 : upd (upd H z (.lst [])) l (.lst (r.map V.int)) p = some (.lst [.int n, .int m, .ref l]) := by rw [upd_ne npl]; exact hp1
          have hl2 : upd (upd H z (.lst [])) l (.lst (r.map V.int)) l = some (.lst (r.map V.int)) := upd_same
          have hb2 : But p l H (upd (upd H z (.lst [])) l (.lst (r.map V.int))) := (Same.but (same_new hz)).trans but_l
          have hx2 : r.length ≤ 100 := by rw [List.length_cons] at hx; omega
          refine ⟨fun σ' H' => ∃ sz : Int, 0 ≤ sz ∧ σ' = [some (.ref p), some (.int many), some (.int x), some (.int sz), none] ∧ H' = upd (upd H z (.lst [])) l (.lst (r.map V.int)), ?_, ?_⟩
          · walk_at "rd"
            refine ite2 (fun e => ?_) (fun e => ?_)
            · have e1 : (0 : Int) ≤ x := of_decide_eq_true e
              walk_at "rd"
              exact ⟨2 * x, by omega, rfl, rfl⟩
            · have e1 : ¬ (0 : Int) ≤ x := fun q => e (decide_eq_true q)
              walk_at "rd"
              exact ⟨-1 - 2 * x, by omega, rfl, rfl⟩
          · rintro σ' H' ⟨sz, hsz, rfl, rfl⟩
            generalize upd (upd H z (.lst [])) l (.lst (r.map V.int)) = H2 at hp2 hl2 hb2
            refine ⟨fun σ' H3 => ∃ n3 : Int, 0 ≤ n3 ∧ σ' = [some (.ref p), some (.int many), some (.int x), some (.int sz), none] ∧ H3 = upd H2 p (.lst [.int n3, .int m, .ref l]), ?_, ?_⟩
            · walk_at "rd"
              refine ite2 (fun e => ?_) (fun e => ?_)
              · walk_at "rd"
                exact ⟨sz, hsz, rfl, rfl⟩
              · walk_at "rd"
                exact ⟨0, Int.le_refl 0, rfl, rfl⟩
            · rintro σ' H3 ⟨n3, hn3, rfl, rfl⟩
              walk_at "rd"
              refine Mid.mk ⟨_, _, rfl, ⟨n3, _, r, upd_same, ?_, npl, hn3, ?_, ?_, hx2⟩, (hb2.trans but_p).trans but_p⟩
              · rw [upd_ne npl.symm, upd_ne npl.symm]
                exact hl2
              · have := Int.emod_nonneg (m + sz * 69621) (show (2147483629 : Int) ≠ 0 by decide)
                omega
              · have := Int.emod_lt_of_pos (m + sz * 69621) (show (0 : Int) < 2147483629 by decide)
                omega
      · exact iteF (Mid.mk ⟨none, none, rfl, ⟨n, m, xs, hp, hl, npl, n0, m0, m1, hx⟩, But.refl _ _ _⟩)
    · intro σ' H1 mm
      obtain ⟨y2, y3, rfl, ⟨n, m, xs, hp, hl, npl, n0, m0, m1, hx⟩, hB⟩ := mm.out
      walk_at "rd"
      refine ite2 (fun e => ?_) (fun e => ?_)
      · have e1 : (0 : Int) < n := of_decide_eq_true e
        walk_at "rd"
        refine q _ _ (Int.emod_nonneg _ (by omega)) (Int.emod_lt_of_pos _ (by omega)) ⟨n / many, m, xs, upd_same, ?_, npl, Int.ediv_nonneg n0 (by omega), m0, m1, hx⟩ (hB.trans but_p)
        rw [upd_ne npl.symm]
        exact hl
      · walk_at "rd"
        have b1 := Int.emod_nonneg (m * 48271 + 11) (show (2147483647 : Int) ≠ 0 by decide)
        have b2 := Int.emod_lt_of_pos (m * 48271 + 11) (show (0 : Int) < 2147483647 by decide)
        walk_at "rd"
        refine q _ _ (Int.emod_nonneg _ (by omega)) (Int.emod_lt_of_pos _ (by omega)) ⟨n, (m * 48271 + 11) % 2147483647, xs, upd_same, ?_, npl, n0, b1, by omega, hx⟩ (hB.trans but_p)
        rw [upd_ne npl.symm]
        exact hl
theorem ok__law_pool {f : Addr} {fd : FuncData} (D : DefAt K mg "_law_pool" s__law_pool ["script"] f fd) (T : Txt K mg) : Ok P w K mg base CX0 "_law_pool" 1 ["script"] (spPool K) f fd := by
  refine D.mk' (D.F.ok sc__law_pool (fun vs H Q E h => ?_) (fun cdv A outer s H vs Q E hr h => ?_))
  · obtain ⟨a, ns, rfl, _⟩ := h
    rfl
  · obtain ⟨a, ns, rfl, hS, h63, q⟩ := h
    refine ⟨_, C8.pss_cut (ps_set (i := 1) sc__law_pool.nd rfl (Or.inl rfl) (pe_ifExp (pt_cmpR op_gt (pe_callB call_len_seq rfl T.b_len PySem.boot_len (pa_cons (pv 0) pa_nil)) pe_int (nomark _)) (pe_callTy call_int1 rfl T.b_int (by decide +kernel) (pa_cons (pe_ix ix_list (pv 0) pe_int (fun _ _ => rfl)) pa_nil)) pe_int))
      (C8.pss_cut (ps_set (i := 2) sc__law_pool.nd rfl (Or.inl rfl) (pe_ifExp (pt_cmpR op_ge (pv 1) pe_int (nomark _)) (pe_op op_mulB pe_int (pv 1)) (pe_op op_sub (pe_un un_neg pe_int) (pe_op op_mulB pe_int (pv 1)))))
      (pss_one (ps_ret (pe_lst (pa_cons (pe_ifExp (pt_cmpR op_ge (pv 2) (pe_op op_pow pe_int pe_int) (nomark _)) (pv 2) pe_int) (pa_cons (pe_op op_add (pe_op op_mod (pe_callTy call_int1 rfl T.b_int (by decide +kernel) (pa_cons (pe_op op_add (pe_op op_mulB (pv 2) pe_int) pe_int) pa_nil)) pe_int) pe_int) (pa_cons (pe_callTy call_list_of rfl T.b_list (by decide +kernel) (pa_cons (pe_slice sl_list (pv 0) (po_some pe_int) po_none) pa_nil)) pa_nil))))))), ?_⟩
    refine ⟨fun σ' H' => Mid (∃ x : Int, σ' = [some (.ref a), some (.int x), none] ∧ H' = H), ?_, ?_⟩
    · walk_at "rd"
      refine ite2 (fun e => ?_) (fun e => ?_)
      · rcases list_new ns with rfl | ⟨x, r, rfl⟩
        · exact absurd e (by decide)
        · walk_at "rd"
          refine ⟨_, _, _, V.int x, rfl, rfl, hS, atI_nat (j := 0) rfl, ?_⟩
          walk_at "rd"
          exact .mk ⟨x, rfl, rfl⟩
      · walk_at "rd"
        exact .mk ⟨0, rfl, rfl⟩
    · intro σ' H' m
      obtain ⟨x, rfl, rfl⟩ := m.out
      refine ⟨fun σ' H3 => Mid (∃ sz : Int, 0 ≤ sz ∧ σ' = [some (.ref a), some (.int x), some (.int sz)] ∧ H3 = H'), ?_, ?_⟩
      · walk_at "rd"
        refine ite2 (fun e => ?_) (fun e => ?_)
        · have e1 : (0 : Int) ≤ x := of_decide_eq_true e
          walk_at "rd"
          exact .mk ⟨2 * x, by omega, rfl, rfl⟩
        · have e1 : ¬ (0 : Int) ≤ x := fun q => e (decide_eq_true q)
          walk_at "rd"
          exact .mk ⟨-1 - 2 * x, by omega, rfl, rfl⟩
      · intro σ' H3 m
        obtain ⟨sz, hsz, rfl, rfl⟩ := m.out
        have b1 := Int.emod_nonneg (sz * 48271 + 1009) (show (2147483629 : Int) ≠ 0 by decide)
        have b2 := Int.emod_lt_of_pos (sz * 48271 + 1009) (show (0 : Int) < 2147483629 by decide)
        have fin : ∀ (n : Int) (c l p : Addr), 0 ≤ n → H3 c = none → upd H3 c (.lst (cutV (ns.map V.int) (some 1) none)) l = none → upd (upd H3 c (.lst (cutV (ns.map V.int) (some 1) none))) l (.lst (cutV (ns.map V.int) (some 1) none)) p = none →
            Q (.ref p) (upd (upd (upd H3 c (.lst (cutV (ns.map V.int) (some 1) none))) l (.lst (cutV (ns.map V.int) (some 1) none))) p (.lst [.int n, .int ((sz * 48271 + 1009) % 2147483629 + 3), .ref l])) := by
          intro n c l p hn hc hl hp
          have s1 := same_new (o := .lst (cutV (ns.map V.int) (some 1) none)) hc
          have s2 := s1.trans (same_new (o := .lst (cutV (ns.map V.int) (some 1) none)) hl)
          have npl : p ≠ l := fun z => by
            rw [z, upd_same] at hp
            cases hp
          refine q _ p l (s2.trans (same_new hp)) (s2.free hp) (s1.free hl) ⟨n, _, ns.drop 1, upd_same, ?_, npl, hn, by omega, by omega, ?_⟩
          · rw [upd_ne npl.symm, upd_same, cut_one, List.map_drop]
          · rw [List.length_drop]
            omega
        walk_at "rd"
        refine ite2 (fun e => ?_) (fun e => ?_)
        · walk_at "rd"
          exact ⟨_, _, rfl, hS, fun c hc => ⟨_, _, rfl, .inl (SqL.of upd_same), fun l hl => ⟨(by show 3 ≤ sizeLine; decide), fun p hp => fin sz c l p hsz hc hl hp⟩⟩⟩
        · walk_at "rd"
          exact ⟨_, _, rfl, hS, fun c hc => ⟨_, _, rfl, .inl (SqL.of upd_same), fun l hl => ⟨(by show 3 ≤ sizeLine; decide), fun p hp => fin 0 c l p (Int.le_refl 0) hc hl hp⟩⟩⟩
theorem ok__law_pick {f fD : Addr} {fd fdD : FuncData} (D : DefAt K mg "_law_pick" s__law_pick ["pool", "things"] f fd) (T : Txt K mg) (G__law_draw : Ok P w K mg base CX0 "_law_draw" 1 ["pool", "many"] spDraw fD fdD) : Ok P w K mg base CX0 "_law_pick" 2 ["pool", "things"] (spPick K) f fd := by
  refine D.mk' (D.F.ok sc__law_pick (fun vs H Q E h => ?_) (fun cdv A outer s H vs Q E hr h => ?_))
  · obtain ⟨p, l, t, xs, rfl, _⟩ := h
    rfl
  · obtain ⟨p, l, t, xs, rfl, hP, htp, htl, hS, h1, h2, q⟩ := h
    refine ⟨_, pss_one (ps_ret (pe_ix ix_list (pv 1) (pe_call G__law_draw.ok (hr.mono (by decide)) rfl G__law_draw.g G__law_draw.k G__law_draw.b .nil pass0 (pa_cons (pv 0) (pa_cons (pe_callB call_len_seq rfl T.b_len PySem.boot_len (pa_cons (pv 1) pa_nil)) pa_nil))) (fun _ _ => rfl))), ?_⟩
    walk_at "rd"
    refine ⟨p, l, _, rfl, hP, by omega, by omega, fun v H' v0 v1 hP' hB => ?_⟩
    have hS' := hB.seq htp htl hS
    have hv : v.toNat < xs.length := by omega
    have ev : v = ((v.toNat : Nat) : Int) := by omega
    refine ⟨_, _, _, xs[v.toNat], rfl, rfl, hS', ?_, ?_⟩
    · have z : atI xs ((v.toNat : Nat) : Int) = some xs[v.toNat] := atI_nat (List.getElem?_eq_getElem hv)
      rw [← ev] at z
      exact z
    · exact q _ _ (List.getElem_mem hv) hP' hB
end

section
variable {P : Program} {w : World} {K : PySem.W.Frag} {mg : Str → Option Value} {base : Heap} {TZ : Tabz}
theorem ok_tuple_fault {f : Addr} {fd : FuncData} (D : DefAt K mg "tuple_fault" s_tuple_fault ["thing", "least", "most", "fits"] f fd) (T : Txt K mg) : OkC P w K mg base "tuple_fault" 4 (spFault P w K mg base TZ 3) f := by
  refine okC_mk D sc_tuple_fault (fun s vs H Q h => ?_) (fun cdv A outer s H vs Q hr h => ?_)
  · obtain ⟨a, f, xs, lo, hi, pre, g, rfl, _⟩ := h
    rfl
  · obtain ⟨a, f, xs, lo, hi, pre, g, rfl, ha, hx, tb, c, hp, q⟩ := h
    obtain ⟨t, ht, k1⟩ : ∃ t, TyX K H (.ref a) t ∧ PySem.W.kitOne K t (.type "tuple") = some true := ⟨_, .base (.tup ha), kit_ty (r := true) (by decide +kernel)⟩
    refine ⟨_, pss_cons (ps_if (PW.pt (pw_or (pt_not (pt_val (pe_callB call_isi rfl T.b_isinstance (by decide +kernel) (pa_cons (pv 0) (pa_cons (pe_bltn (v := .ty "tuple") (u := .type "tuple") rfl T.b_tuple (by decide +kernel) rfl) pa_nil))))) (pw_or1 (pt_not (pt_chain op_le op_le (pv 1) (pe_callB call_len_seq rfl T.b_len PySem.boot_len (pa_cons (pv 0) pa_nil)) (pv 2)))))) (pss_one (ps_ret (pe_un un_neg pe_int))) (pss_nil))
      (pss_cons (ps_for PassesOwn.never rfl (pi_enumT rfl T.b_enumerate (pa_cons (pv 0) pa_nil)) (pg_tup rfl (pgs_cons (pg_name (i := 4) sc_tuple_fault.nd rfl (Or.inl rfl)) (pgs_cons (pg_name (i := 5) sc_tuple_fault.nd rfl (Or.inl rfl)) pgs_nil))) (pss_one (ps_if (pt_not (pt_val (pe_callP (T := TZ) (i := 3) (k := 3) rfl hr (by decide) rfl (Or.inl rfl) (pa_cons (pv 5) pa_nil)))) (pss_one (ps_ret (pv 4))) (pss_nil))))
      (pss_one (ps_ret pe_non))), ?_⟩
    have bad : ¬ (lo ≤ ((xs.length : Nat) : Int) ∧ ((xs.length : Nat) : Int) ≤ hi) → Q (.int (-1)) H := fun z => by
      have q1 := q H (.refl H) tb
      unfold faultV at q1
      rw [if_neg z] at q1
      exact q1
    walk_at "rd"
    refine ite2 (fun e1 => ?_) (fun e1 => ?_)
    · walk_at "rd"
      refine ite2 (fun e2 => ?_) (fun e2 => ?_)
      · walk_at "rd"
        exact bad fun z => by
          rw [decide_eq_true z.2] at e2
          exact absurd e2 (by decide)
      · have z1 : lo ≤ ((xs.length : Nat) : Int) := of_decide_eq_true e1
        have z2 : ((xs.length : Nat) : Int) ≤ hi := Decidable.byContradiction fun n => e2 (by rw [decide_eq_false n]; rfl)
        have fin : ∀ (r : V) (H' : Hp), faultV lo hi g xs = r → LamX.ExtN H H' → LamX.Tabs TZ H' → Q r H' := fun r H' e x t => e ▸ q H' x t
        have fv : faultV lo hi g xs = match faultAt g xs with
            | some i => V.int ((i : Nat) : Int)
            | none => V.non := if_pos ⟨z1, z2⟩
        walk_at "rd"
        refine ⟨_, _, rfl, SqT.of ha, for_enumT (K := K) (a := a) (xs := xs) (fun i σ' H' => Mid (∃ y4 y5, σ' = [some (.ref a), some (.int lo), some (.int hi), some (.ref f), y4, y5] ∧ LamX.ExtN H H' ∧ LamX.Tabs TZ H' ∧ ∀ j y, j < i → xs[j]? = some y → g y = true)) (.mk ⟨_, _, rfl, .refl H, tb, fun j y h => absurd h (Nat.not_lt_zero _)⟩) (fun i σ' H' m => ?_) (fun i x Ta σ' H' hxi m hT => ?_) (fun σ' H' m => ?_)⟩
        · obtain ⟨y4, y5, rfl, e, t2, hh⟩ := m.out
          exact SqT.of (e _ _ ha (fun _ z => by cases z))
        · obtain ⟨y4, y5, rfl, e, t2, hh⟩ := m.out
          have e3 : LamX.ExtN H (upd H' Ta (.tup [.int (i : Nat), x])) := e.trans (.of (same_new hT))
          have t3 : LamX.Tabs TZ (upd H' Ta (.tup [.int (i : Nat), x])) := t2.ext (same_new hT)
          have hm : x ∈ xs := List.mem_of_getElem? hxi
          walk_at "rd"
          refine ⟨Ta, _, rfl, SqT.of upd_same, rfl, ?_⟩
          walk_at "rd"
          refine ⟨f, pre, g, rfl, c, e3, ?_⟩
          walk_at "rd"
          refine ⟨hp x hm _ e3, fun H4 e4 t4 => ?_⟩
          walk_at "rd"
          refine ite2 (fun z => ?_) (fun z => ?_)
          · have gx : g x = false := by
              cases hgx : g x with
              | true => rw [hgx] at z; exact absurd z (by decide)
              | false => rfl
            walk_at "rd"
            refine fin _ _ ?_ (e3.trans e4) t4
            rw [fv, faultAt_take hh hxi gx]
          · have gx : g x = true := by
              cases hgx : g x with
              | true => rfl
              | false => rw [hgx] at z; exact absurd rfl z
            refine .mk ⟨_, _, rfl, e3.trans e4, t4, fun j y hj hy => ?_⟩
            by_cases hji : j < i
            · exact hh j y hji hy
            · obtain rfl : j = i := by omega
              rw [hxi] at hy
              cases hy
              exact gx
        · obtain ⟨y4, y5, rfl, e, t2, hh⟩ := m.out
          refine fin _ _ ?_ e t2
          rw [fv, faultAt_none (fun y hy => by
            obtain ⟨j, hj⟩ := List.mem_iff_getElem?.mp hy
            exact hh j y (List.getElem?_eq_some_iff.mp hj).1 hj)]
    · walk_at "rd"
      exact bad fun z => e1 (decide_eq_true z.1)
theorem ok_tuple_fits {f f1 : Addr} {fd : FuncData} (D : DefAt K mg "tuple_fits" s_tuple_fits ["thing", "least", "most", "fits"] f fd) (T : Txt K mg) (G_tuple_fault : OkC P w K mg base "tuple_fault" 4 (spFault P w K mg base TZ 3) f1) : OkC P w K mg base "tuple_fits" 5 (spFits P w K mg base TZ 3) f := by
  refine okC_mk D sc_tuple_fits (fun s vs H Q h => ?_) (fun cdv A outer s H vs Q hr h => ?_)
  · obtain ⟨a, f, xs, lo, hi, pre, g, rfl, _⟩ := h
    rfl
  · obtain ⟨a, f, xs, lo, hi, pre, g, rfl, ha, hx, tb, c, hp, q⟩ := h
    refine ⟨_, pss_one (ps_ret (pe_cmpR op_isN (pe_callC G_tuple_fault (hr.mono (by decide)) rfl (pas_of rfl (pa_cons (pv 0) (pa_cons (pv 1) (pa_cons (pv 2) (pa_cons (pv 3) pa_nil)))))) pe_non (nomark _))), ?_⟩
    walk_at "rd"
    refine ⟨LamX.ExtN.refl H, fun s1 l => ⟨a, f, xs, lo, hi, pre, g, rfl, ha, hx, tb, c.later l, hp, fun H' e t2 => ?_⟩⟩
    walk_at "rd"
    have e1 : decide (faultV lo hi g xs = V.non) = noneV (faultV lo hi g xs) := by
      cases faultV lo hi g xs <;> first | rfl | exact decide_eq_false (fun z => by cases z)
    rw [e1]
    exact q H' e t2
def InGround (p : Int) (pts : List Int) : Prop := (∀ x ∈ pts, 0 ≤ x ∧ x ≤ p) ∧ pts.Nodup ∧ 1 ≤ pts.length ∧ pts.length ≤ 8
def spPointsFit (TZ : Tabz) : Sp := fun vs H Q _ => ∃ (p : Int) (a : Addr) (pts : List Int), vs = [.int p, .ref a] ∧ H a = some (.tup (pts.map V.int)) ∧ InGround p pts ∧ p < 70000 ∧ LamX.Tabs TZ H ∧ ∀ H', LamX.ExtN H H' → LamX.Tabs TZ H' → Q (.bl true) H'
theorem ok_points_fit {f f1 f2 c1 P1 : Addr} {fd fd2 : FuncData} (D : DefAt K mg "points_fit" s_points_fit ["p", "thing"] f fd) (C : CodeAt K "points_fit" s_points_fit f fd c1) (L_points_fit : LamAt TZ base mg "points_fit" c1 P1) (T : Txt K mg) (G_tuple_fits : OkC P w K mg base "tuple_fits" 5 (spFits P w K mg base TZ 3) f1)
    (G_number_between : Ok P w K mg base CX0 "number_between" 2 ["thing", "least", "most"] (spBetween K) f2 fd2) : Ok P w K mg base CX0 "points_fit" 6 ["p", "thing"] (spPointsFit TZ) f fd := by
  refine okL D C sc_points_fit (fun vs H Q E h => ?_) (fun A outer s H vs Q E hr h => ?_)
  · obtain ⟨p, a, pts, rfl, _⟩ := h
    rfl
  · obtain ⟨p, a, pts, rfl, ha, hg, hp, tb, q⟩ := h
    obtain ⟨_, h_MOST_SHELVES⟩ := T.c_MOST_SHELVES
    refine ⟨_, pss_one (ps_ret (pe_and (pe_callC G_tuple_fits (hr.mono (by decide)) rfl (pas_cons (pv 1) (pas_cons pe_int (pas_cons (pe_glob (v := .int 8) rfl h_MOST_SHELVES ⟨_, rfl⟩) (pas_lamB ["point", "p"] ["p"] "point" [0] 2 (defScope s_points_fit) L_points_fit (fun q cl f c A outer s H hr => pe_call G_number_between.ok (hr.mono (by decide)) rfl G_number_between.g G_number_between.k G_number_between.b .nil pass0 (pa_cons (pv 0) (pa_cons pe_int (pa_cons (pv 1) pa_nil))))))))) (pe_one (pe_cmpR op_eq (pe_lenSetT rfl T.b_len rfl T.b_set (pv 1)) (pe_callB call_len_seq rfl T.b_len PySem.boot_len (pa_cons (pv 1) pa_nil)) (nomark _))))), ?_⟩
    walk_at "rd"
    obtain ⟨hb, hd, hl1, hl2⟩ := hg
    have fv : faultV 1 8 (betV 0 p) (pts.map V.int) = .non := by
      unfold faultV
      rw [if_pos (by rw [List.length_map]; omega), faultAt_none (fun y hy => ?_)]
      obtain ⟨x, hx, rfl⟩ := List.mem_map.mp hy
      have := hb x hx
      show (decide (0 ≤ x) && decide (x ≤ p)) = true
      rw [decide_eq_true this.1, decide_eq_true this.2] <;> rfl
    refine ⟨fun v _ => ∃ x : Int, v = .int x, betV 0 p, ?_, ?_⟩
    · rintro v H1 Q1 t1 ⟨x, rfl⟩ q1
      walk_at "rd"
      exact ⟨_, _, _, rfl, kn_int x, q1 H1 (.refl H1) t1⟩
    · intro s1 f' H1 e1 t1 c
      have ha1 := e1 _ _ ha (fun _ z => by cases z)
      refine ⟨a, f', pts.map V.int, 1, 8, _, _, rfl, ha1, by rw [List.length_map]; omega, t1, c, fun v hv _ _ => ?_, fun H' e2 t2 => ?_⟩
      · obtain ⟨x, hx, rfl⟩ := List.mem_map.mp hv
        exact ⟨x, rfl⟩
      · rw [fv]
        have ha2 := e2 _ _ ha1 (fun _ z => by cases z)
        walk_at "rd"
        refine ⟨a, pts, pts, rfl, SqT.of ha2, by omega, hd, fun k => Iff.rfl, ?_⟩
        walk_at "rd"
        have e3 : decide (V.int (pts.length : Nat) = V.int ((pts.map V.int).length : Nat)) = true := decide_eq_true (by rw [List.length_map])
        rw [e3]
        exact q H' (e1.trans e2) t2
def GroundAt (H : Hp) (g : Addr) (p : Int) (k : Nat) (pts : List Int) : Prop := ∃ b : Addr, H g = some (.tup [.int p, .int (k : Nat), .ref b]) ∧ H b = some (.tup (pts.map V.int)) ∧ PrimeV (.int p) ∧ 1 ≤ k ∧ k ≤ 12 ∧ InGround p pts
theorem GroundAt.ext {H H' : Hp} {g : Addr} {p : Int} {k : Nat} {pts : List Int} (h : GroundAt H g p k pts) (e : LamX.ExtN H H') : GroundAt H' g p k pts := by
  obtain ⟨b, h1, h2, r⟩ := h
  exact ⟨b, e _ _ h1 (fun _ z => by cases z), e _ _ h2 (fun _ z => by cases z), r⟩
def BatchAt (H : Hp) (a : Addr) (p : Int) (k : Nat) (fs : List Int) : Prop := H a = some (.tup (fs.map V.int)) ∧ fs.length = k ∧ ∀ x ∈ fs, 0 ≤ x ∧ x < p
theorem BatchAt.ext {H H' : Hp} {a : Addr} {p : Int} {k : Nat} {fs : List Int} (h : BatchAt H a p k fs) (e : LamX.ExtN H H') : BatchAt H' a p k fs := ⟨e _ _ h.1 (fun _ z => by cases z), h.2⟩
def spGroundFault (TZ : Tabz) : Sp := fun vs H Q _ => ∃ (g : Addr) (p : Int) (k : Nat) (pts : List Int), vs = [.ref g] ∧ GroundAt H g p k pts ∧ LamX.Tabs TZ H ∧ ∀ H', LamX.ExtN H H' → LamX.Tabs TZ H' → Q .non H'
def spMadeGround (TZ : Tabz) : Sp := fun vs H Q _ => ∃ (g : Addr) (p : Int) (k : Nat) (pts : List Int), vs = [.ref g] ∧ GroundAt H g p k pts ∧ LamX.Tabs TZ H ∧ ∀ H', LamX.ExtN H H' → LamX.Tabs TZ H' → Q (.ref g) H'
def spBatchFault (TZ : Tabz) : Sp := fun vs H Q _ => ∃ (g a : Addr) (p : Int) (k : Nat) (pts fs : List Int), vs = [.ref g, .ref a] ∧ GroundAt H g p k pts ∧ BatchAt H a p k fs ∧ LamX.Tabs TZ H ∧ ∀ H', LamX.ExtN H H' → LamX.Tabs TZ H' → Q .non H'
def spMadeBatch (TZ : Tabz) : Sp := fun vs H Q _ => ∃ (g a : Addr) (p : Int) (k : Nat) (pts fs : List Int), vs = [.ref g, .ref a] ∧ GroundAt H g p k pts ∧ BatchAt H a p k fs ∧ LamX.Tabs TZ H ∧ ∀ H', LamX.ExtN H H' → LamX.Tabs TZ H' → Q (.ref a) H'
theorem ok_ground_fault {f f1 f2 f3 : Addr} {fd fd1 fd2 fd3 : FuncData} (D : DefAt K mg "ground_fault" s_ground_fault ["thing"] f fd) (T : Txt K mg) (G_is_prime : Ok P w K mg base CX0 "is_prime" 3 ["n"] (spIsPrime K) f1 fd1)
    (G_number_between : Ok P w K mg base CX0 "number_between" 2 ["thing", "least", "most"] (spBetween K) f2 fd2) (G_points_fit : Ok P w K mg base CX0 "points_fit" 6 ["p", "thing"] (spPointsFit TZ) f3 fd3) : Ok P w K mg base CX0 "ground_fault" 7 ["thing"] (spGroundFault TZ) f fd := by
  refine D.mk' (D.F.ok sc_ground_fault (fun vs H Q E h => ?_) (fun cdv A outer s H vs Q E hr h => ?_))
  · obtain ⟨g, p, k, pts, rfl, _⟩ := h
    rfl
  · obtain ⟨g, p, k, pts, rfl, ⟨b, hg, hb, pr, k1, k2, ig⟩, tb, q⟩ := h
    obtain ⟨t, ht, kt⟩ : ∃ t, TyX K H (.ref g) t ∧ PySem.W.kitOne K t (.type "tuple") = some true := ⟨_, .base (.tup hg), kit_ty (r := true) (by decide +kernel)⟩
    obtain ⟨_, h_MOST_NUMBERS⟩ := T.c_MOST_NUMBERS
    refine ⟨_, pss_cons (ps_if (PW.pt (pw_or (pt_not (pt_val (pe_callB call_isi rfl T.b_isinstance (by decide +kernel) (pa_cons (pv 0) (pa_cons (pe_bltn (v := .ty "tuple") (u := .type "tuple") rfl T.b_tuple (by decide +kernel) rfl) pa_nil))))) (pw_or1 (pt_cmpR op_ne (pe_callB call_len_seq rfl T.b_len PySem.boot_len (pa_cons (pv 0) pa_nil)) pe_int (nomark _))))) (pss_one (ps_ret (pe_un un_neg pe_int))) (pss_nil))
      (pss_cons (ps_if (pt_not (pt_val (pe_call G_is_prime.ok (hr.mono (by decide)) rfl G_is_prime.g G_is_prime.k G_is_prime.b .nil pass0 (pa_cons (pe_ix ix_tup (pv 0) pe_int (fun _ _ => rfl)) pa_nil)))) (pss_one (ps_ret pe_int)) (pss_nil))
      (pss_cons (ps_if (pt_not (pt_val (pe_call G_number_between.ok (hr.mono (by decide)) rfl G_number_between.g G_number_between.k G_number_between.b .nil pass0 (pa_cons (pe_ix ix_tup (pv 0) pe_int (fun _ _ => rfl)) (pa_cons pe_int (pa_cons (pe_glob (v := .int 12) rfl h_MOST_NUMBERS ⟨_, rfl⟩) pa_nil)))))) (pss_one (ps_ret pe_int)) (pss_nil))
      (pss_cons (ps_if (pt_not (pt_val (pe_call G_points_fit.ok (hr.mono (by decide)) rfl G_points_fit.g G_points_fit.k G_points_fit.b .nil pass0 (pa_cons (pe_ix ix_tup (pv 0) pe_int (fun _ _ => rfl)) (pa_cons (pe_ix ix_tup (pv 0) pe_int (fun _ _ => rfl)) pa_nil))))) (pss_one (ps_ret pe_int)) (pss_nil))
      (pss_one (ps_ret pe_non))))), ?_⟩
    walk_at "rd"
    refine ⟨kn_int p, fun b1 hb1 => ?_⟩
    obtain rfl : b1 = true := hb1.mpr pr
    walk_at "rd"
    refine ⟨_, _, _, rfl, kn_int _, ?_⟩
    have e2 : betV 1 12 (.int (k : Nat)) = true := by
      show (decide ((1 : Int) ≤ (k : Nat)) && decide (((k : Nat) : Int) ≤ 12)) = true
      rw [decide_eq_true (by omega), decide_eq_true (by omega)] <;> rfl
    rw [e2]
    walk_at "rd"
    refine ⟨p, b, pts, rfl, hb, ig, by have := pr.2.1; omega, tb, fun H' e1 t1 => ?_⟩
    walk_at "rd"
    exact q H' e1 t1
theorem ok_made_ground {f f1 : Addr} {fd fd1 : FuncData} (D : DefAt K mg "made_ground" s_made_ground ["thing"] f fd) (T : Txt K mg) (G_ground_fault : Ok P w K mg base CX0 "ground_fault" 7 ["thing"] (spGroundFault TZ) f1 fd1) : Ok P w K mg base CX0 "made_ground" 8 ["thing"] (spMadeGround TZ) f fd := by
  refine D.mk' (D.F.ok sc_made_ground (fun vs H Q E h => ?_) (fun cdv A outer s H vs Q E hr h => ?_))
  · obtain ⟨g, p, k, pts, rfl, _⟩ := h
    rfl
  · obtain ⟨g, p, k, pts, rfl, hg, tb, q⟩ := h
    refine ⟨_, pss_cons (ps_set (i := 1) sc_made_ground.nd rfl (Or.inl rfl) (pe_call G_ground_fault.ok (hr.mono (by decide)) rfl G_ground_fault.g G_ground_fault.k G_ground_fault.b .nil pass0 (pa_cons (pv 0) pa_nil)))
      (pss_cons (ps_if (pt_cmpR op_notN (pv 1) pe_non (nomark _)) (pss_one (ps_dead)) (pss_nil))
      (pss_one (ps_ret (pv 0)))), ?_⟩
    walk_at "rd"
    refine ⟨g, p, k, pts, rfl, hg, tb, fun H' e1 t1 => ?_⟩
    walk_at "rd"
    exact q H' e1 t1
theorem ok_batch_fault {f f1 f2 c1 P1 : Addr} {fd fd2 : FuncData} (D : DefAt K mg "batch_fault" s_batch_fault ["ground", "thing"] f fd) (C : CodeAt K "batch_fault" s_batch_fault f fd c1) (L_batch_fault : LamAt TZ base mg "batch_fault" c1 P1) (T : Txt K mg) (G_tuple_fault : OkC P w K mg base "tuple_fault" 4 (spFault P w K mg base TZ 3) f1)
    (G_number_between : Ok P w K mg base CX0 "number_between" 2 ["thing", "least", "most"] (spBetween K) f2 fd2) : Ok P w K mg base CX0 "batch_fault" 5 ["ground", "thing"] (spBatchFault TZ) f fd := by
  refine okL D C sc_batch_fault (fun vs H Q E h => ?_) (fun A outer s H vs Q E hr h => ?_)
  · obtain ⟨g, a, p, k, pts, fs, rfl, _⟩ := h
    rfl
  · obtain ⟨g, a, p, k, pts, fs, rfl, ⟨b, hg, hb, pr, k1, k2, ig⟩, ⟨ha, hl, hv⟩, tb, q⟩ := h
    refine ⟨_, pss_cons (ps_asg (pv 0) (pg_tup rfl (pgs_cons (pg_name (i := 2) sc_batch_fault.nd rfl (Or.inr rfl)) (pgs_cons (pg_name (i := 3) sc_batch_fault.nd rfl (Or.inl rfl)) (pgs_cons (pg_name (i := 4) sc_batch_fault.nd rfl (Or.inl rfl)) pgs_nil)))))
      (pss_one (ps_ret (pe_callC G_tuple_fault (hr.mono (by decide)) rfl (pas_cons (pv 1) (pas_cons (pv 3) (pas_cons (pv 3) (pas_lamB ["number", "p"] ["p"] "number" [2] 2 (defScope s_batch_fault) L_batch_fault (fun q cl f c A outer s H hr => pe_call G_number_between.ok (hr.mono (by decide)) rfl G_number_between.g G_number_between.k G_number_between.b .nil pass0 (pa_cons (pv 0) (pa_cons pe_int (pa_cons (pe_op op_sub (pv 1) pe_int) pa_nil))))))))))), ?_⟩
    walk_at "rd"
    refine ⟨g, _, rfl, SqT.of hg, rfl, ?_⟩
    walk_at "rd"
    have fv : faultV (k : Nat) (k : Nat) (betV 0 (p - 1)) (fs.map V.int) = .non := by
      unfold faultV
      rw [if_pos (by rw [List.length_map]; omega), faultAt_none (fun y hy => ?_)]
      obtain ⟨x, hx, rfl⟩ := List.mem_map.mp hy
      have := hv x hx
      show (decide (0 ≤ x) && decide (x ≤ p - 1)) = true
      rw [decide_eq_true this.1, decide_eq_true (by omega)] <;> rfl
    refine ⟨fun v _ => ∃ x : Int, v = .int x, betV 0 (p - 1), ?_, ?_⟩
    · rintro v H1 Q1 t1 ⟨x, rfl⟩ q1
      walk_at "rd"
      exact ⟨_, _, _, rfl, kn_int x, q1 H1 (.refl H1) t1⟩
    · intro s1 f' H1 e1 t1 c
      have ha1 := e1 _ _ ha (fun _ z => by cases z)
      refine ⟨a, f', fs.map V.int, (k : Nat), (k : Nat), _, _, rfl, ha1, by rw [List.length_map]; omega, t1, c, fun v hv _ _ => ?_, fun H' e2 t2 => ?_⟩
      · obtain ⟨x, hx, rfl⟩ := List.mem_map.mp hv
        exact ⟨x, rfl⟩
      · rw [fv]
        exact q H' (e1.trans e2) t2
theorem ok_made_batch {f f1 f2 : Addr} {fd fd1 fd2 : FuncData} (D : DefAt K mg "made_batch" s_made_batch ["ground", "thing"] f fd) (T : Txt K mg) (G_made_ground : Ok P w K mg base CX0 "made_ground" 8 ["thing"] (spMadeGround TZ) f1 fd1) (G_batch_fault : Ok P w K mg base CX0 "batch_fault" 5 ["ground", "thing"] (spBatchFault TZ) f2 fd2) : Ok P w K mg base CX0 "made_batch" 9 ["ground", "thing"] (spMadeBatch TZ) f fd := by
  refine D.mk' (D.F.ok sc_made_batch (fun vs H Q E h => ?_) (fun cdv A outer s H vs Q E hr h => ?_))
  · obtain ⟨g, a, p, k, pts, fs, rfl, _⟩ := h
    rfl
  · obtain ⟨g, a, p, k, pts, fs, rfl, hg, ha, tb, q⟩ := h
    refine ⟨_, pss_cons (ps_set (i := 2) sc_made_batch.nd rfl (Or.inl rfl) (pe_call G_batch_fault.ok (hr.mono (by decide)) rfl G_batch_fault.g G_batch_fault.k G_batch_fault.b .nil pass0 (pa_cons (pe_call G_made_ground.ok (hr.mono (by decide)) rfl G_made_ground.g G_made_ground.k G_made_ground.b .nil pass0 (pa_cons (pv 0) pa_nil)) (pa_cons (pv 1) pa_nil))))
      (pss_cons (ps_if (pt_cmpR op_notN (pv 2) pe_non (nomark _)) (pss_one (ps_dead)) (pss_nil))
      (pss_one (ps_ret (pv 1)))), ?_⟩
    walk_at "rd"
    refine ⟨g, p, k, pts, rfl, hg, tb, fun H1 e1 t1 => ?_⟩
    walk_at "rd"
    refine ⟨g, a, p, k, pts, fs, rfl, hg.ext e1, ha.ext e1, t1, fun H2 e2 t2 => ?_⟩
    walk_at "rd"
    exact q H2 (e1.trans e2) t2
end

section
variable {P : Program} {w : World} {K : PySem.W.Frag} {mg : Str → Option Value} {base : Heap} {TZ : Tabz}
def spPowers : Sp := fun vs H Q _ => ∃ (p a : Int) (n : Nat), vs = [.int p, .int a, .int (n : Nat)] ∧ 2 ≤ p ∧ p < 70000 ∧ 1 ≤ n ∧ n ≤ 1000 ∧ ∀ (H' : Hp) (l : Addr), Same H H' → H l = none → H' l = some (.lst ((wl p a 0 n).map V.int)) → Q (.ref l) H'
def spLater (K : PySem.W.Frag) : Sp := fun vs H Q _ => ∃ (p a : Int) (l0 : Addr) (j n : Nat), vs = [.int p, .int a, .ref l0] ∧ H l0 = some (.lst ((wl p a j n).map V.int)) ∧ 2 ≤ p ∧ p < 70000 ∧ 1 ≤ n ∧ n ≤ 1000 ∧ ∀ (H' : Hp) (l : Addr), Same H H' → H l = none → H' l = some (.lst ((wl p a (j + 1) n).map V.int)) → Q (.ref l) H'
def spVW : Sp := fun vs H Q _ => ∃ (p x : Int) (n j : Nat), vs = [.int p, .int (n : Nat), .int x, .int (j : Nat)] ∧ 2 ≤ p ∧ p < 70000 ∧ 1 ≤ n ∧ n ≤ 1000 ∧ j ≤ 2000 ∧ ∀ (H' : Hp) (l : Addr), Same H H' → H' l = some (.tup ((vw p n x j).map V.int)) → Q (.ref l) H'
def spValue : Sp := fun vs H Q _ => ∃ (p x : Int) (a : Addr) (fs : List Int) (j : Nat), vs = [.int p, .ref a, .int x, .int (j : Nat)] ∧ H a = some (.tup (fs.map V.int)) ∧ 2 ≤ p ∧ p < 70000 ∧ 1 ≤ fs.length ∧ fs.length ≤ 1000 ∧ j ≤ 2000 ∧ ∀ H', Same H H' → Q (.int (valZ p fs x j)) H'
theorem ok_powers {f : Addr} {fd : FuncData} (D : DefAt K mg "powers" s_powers ["p", "a", "many"] f fd) (T : Txt K mg) : Ok P w K mg base CX0 "powers" 1 ["p", "a", "many"] spPowers f fd := by
  refine D.mk' (D.F.ok sc_powers (fun vs H Q E h => ?_) (fun cdv A outer s H vs Q E hr h => ?_))
  · obtain ⟨p, a, n, rfl, _⟩ := h
    rfl
  · obtain ⟨p, a, n, rfl, p2, p3, n1, n2, q⟩ := h
    refine ⟨_, pss_cons (ps_set (i := 3) sc_powers.nd rfl (Or.inl rfl) (pe_lst (pa_cons pe_int pa_nil)))
      (pss_cons (ps_for PassesOwn.never rfl (pi_range1 rfl T.b_range (pa_cons (pe_op op_sub (pv 2) pe_int) pa_nil)) (pg_name (i := 4) sc_powers.nd rfl (Or.inl rfl)) (pss_one (ps_expr (pe_bm PySem.F.plainAttrs_list PySem.F.slot_list_append PySem.F.type_list_append mt_append (pv 3) (pa_cons (pe_op op_mod (pe_op op_mulB (pe_ix ix_list (pv 3) (pe_un un_neg pe_int) (fun _ _ => rfl)) (pv 1)) (pv 0)) pa_nil)))))
      (pss_one (ps_ret (pv 3)))), ?_⟩
    walk_at "rd"
    refine ⟨by show 1 ≤ sizeLine; decide, fun l hl => ?_⟩
    walk_at "rd"
    refine ⟨by omega, by omega, ?_⟩
    refine for_range (lo := 0) (n := ((n : Int) - 1).toNat) (fun i σ' H' => Mid (∃ y, σ' = [some (.int p), some (.int a), some (.int (n : Nat)), some (.ref l), y] ∧ Same H H' ∧ H' l = some (.lst ((wl p a 0 (i + 1)).map V.int)))) (.mk ⟨_, rfl, same_new hl, by rw [upd_same, wl_one p2]; rfl⟩) ?_ ?_
    · intro i σ' H' hi m
      obtain ⟨y, rfl, hs, hw⟩ := m.out
      have hw2 := hw
      rw [wl_succ, List.map_append] at hw2
      walk_at "rd"
      have b1 := Int.emod_nonneg (W a 0 i) (show p ≠ 0 by omega)
      have b2 := Int.emod_lt_of_pos (W a 0 i) (show 0 < p by omega)
      refine ⟨l, _, -1, _, rfl, rfl, SqL.of hw2, atI_last _ _, ?_⟩
      walk_at "rd"
      refine ⟨l, _, _, rfl, rfl, hw, by rw [List.length_map, wl_len]; exact small1000 (by omega), ?_⟩
      walk_at "rd"
      refine .mk ⟨_, rfl, fun b o e => ?_, ?_⟩
      · rw [upd_ne (ne_of_none e hl)]
        exact hs _ _ e
      · have e : (wl p a 0 (i + 1 + 1)).map V.int = (wl p a 0 i).map V.int ++ [W a 0 i % p].map V.int ++ [V.int (W a 0 i % p * a % p)] := by
          rw [wl_succ, List.map_append, wl_succ, List.map_append, W0_next]
          rfl
        rw [upd_same, e, wl_succ, List.map_append]
    · intro σ' H' m
      obtain ⟨y, rfl, hs, hw⟩ := m.out
      rw [show ((n : Int) - 1).toNat + 1 = n by omega] at hw
      walk_at "rd"
      exact q H' l hs hl hw
theorem ok_later_weights {f : Addr} {fd : FuncData} (D : DefAt K mg "later_weights" s_later_weights ["p", "point", "weights"] f fd) (T : Txt K mg) : Ok P w K mg base CX0 "later_weights" 1 ["p", "point", "weights"] (spLater K) f fd := by
  refine D.mk' (D.F.ok sc_later_weights (fun vs H Q E h => ?_) (fun cdv A outer s H vs Q E hr h => ?_))
  · obtain ⟨p, a, l0, j, n, rfl, _⟩ := h
    rfl
  · obtain ⟨p, a, l0, j, n, rfl, h0, p2, p3, n1, n2, q⟩ := h
    refine ⟨_, pss_cons (ps_set (i := 3) sc_later_weights.nd rfl (Or.inl rfl) (pe_lst (pa_cons pe_int pa_nil)))
      (pss_cons (ps_for PassesOwn.never rfl (pi_list (pe_slice sl_list (pv 2) po_none (po_some (pe_un un_neg pe_int)))) (pg_name (i := 4) sc_later_weights.nd rfl (Or.inl rfl)) (pss_one (ps_expr (pe_bm PySem.F.plainAttrs_list PySem.F.slot_list_append PySem.F.type_list_append mt_append (pv 3) (pa_cons (pe_op op_mod (pe_op op_add (pe_op op_mulB (pv 1) (pe_ix ix_list (pv 3) (pe_un un_neg pe_int) (fun _ _ => rfl))) (pv 4)) (pv 0)) pa_nil)))))
      (pss_one (ps_ret (pv 3)))), ?_⟩
    walk_at "rd"
    refine ⟨by show 1 ≤ sizeLine; decide, fun l hl => ?_⟩
    walk_at "rd"
    have h1 := same_new (o := .lst [V.int 0]) hl _ _ h0
    refine ⟨l0, _, rfl, SqL.of h1, fun b hb => ?_⟩
    have nbl : b ≠ l := fun z => by rw [z, upd_same] at hb; cases hb
    have hlb : upd (upd H l (.lst [V.int 0])) b (.lst (cutV ((wl p a j n).map V.int) none (some (-1)))) l = some (.lst [V.int 0]) := by rw [upd_ne nbl.symm, upd_same]
    have hbb : upd (upd H l (.lst [V.int 0])) b (.lst (cutV ((wl p a j n).map V.int) none (some (-1)))) b = some (.lst (((wl p a j n).map V.int).take (n - 1))) := by rw [upd_same, cut_init, List.length_map, wl_len]
    have hss : Same H (upd (upd H l (.lst [V.int 0])) b (.lst (cutV ((wl p a j n).map V.int) none (some (-1))))) := (same_new hl).trans (same_new hb)
    generalize upd (upd H l (.lst [V.int 0])) b (.lst (cutV ((wl p a j n).map V.int) none (some (-1)))) = H2 at hlb hbb hss
    have hlen : (((wl p a j n).map V.int).take (n - 1)).length = n - 1 := by rw [List.length_take, List.length_map, wl_len]; omega
    refine ⟨b, rfl, ⟨_, SqL.of hbb⟩, ?_⟩
    refine for_list (K := K) (a := b) (xs := ((wl p a j n).map V.int).take (n - 1)) (fun i σ' H' => Mid (∃ y, σ' = [some (.int p), some (.int a), some (.ref l0), some (.ref l), y] ∧ Same H H' ∧ H' l = some (.lst ((wl p a (j + 1) (i + 1)).map V.int)) ∧ H' b = some (.lst (((wl p a j n).map V.int).take (n - 1))))) (.mk ⟨_, rfl, hss, by rw [hlb, wl_one']; rfl, hbb⟩) (fun i σ' H' hi m => ?_) (fun i x σ' H' hx m => ?_) (fun σ' H' m => ?_)
    · obtain ⟨y, rfl, hs, hw, hb2⟩ := m.out
      exact SqL.of hb2
    · obtain ⟨y, rfl, hs, hw, hb2⟩ := m.out
      have hi : i < n - 1 := by
        have := (List.getElem?_eq_some_iff.mp hx).1
        omega
      have ex : x = .int (W a j i % p) := by
        rw [List.getElem?_take_of_lt hi, List.getElem?_map, wl_get (by omega)] at hx
        exact (Option.some.inj hx).symm
      subst ex
      have hw2 := hw
      rw [wl_succ, List.map_append] at hw2
      walk_at "rd"
      have b1 := Int.emod_nonneg (W a (j + 1) i) (show p ≠ 0 by omega)
      have b2 := Int.emod_lt_of_pos (W a (j + 1) i) (show 0 < p by omega)
      refine ⟨l, _, -1, _, rfl, rfl, SqL.of hw2, atI_last _ _, ?_⟩
      walk_at "rd"
      refine ⟨l, _, _, rfl, rfl, hw, by rw [List.length_map, wl_len]; exact small1000 (by omega), ?_⟩
      walk_at "rd"
      refine .mk ⟨_, rfl, fun b o e => ?_, ?_, ?_⟩
      · rw [upd_ne (ne_of_none e hl)]
        exact hs _ _ e
      · have e : (wl p a (j + 1) (i + 1 + 1)).map V.int = (wl p a (j + 1) i).map V.int ++ [W a (j + 1) i % p].map V.int ++ [V.int ((a * (W a (j + 1) i % p) + W a j i % p) % p)] := by
          rw [wl_succ, List.map_append, wl_succ, List.map_append, W_next]
          rfl
        rw [upd_same, e, wl_succ, List.map_append]
      · rw [upd_ne nbl]
        exact hb2
    · obtain ⟨y, rfl, hs, hw, hb2⟩ := m.out
      rw [hlen, show n - 1 + 1 = n by omega] at hw
      walk_at "rd"
      exact q H' l hs hl hw
theorem ok_value_weights {f f1 f2 : Addr} {fd fd1 fd2 : FuncData} (D : DefAt K mg "value_weights" s_value_weights ["p", "many", "point", "j"] f fd) (T : Txt K mg) (G_powers : Ok P w K mg base CX0 "powers" 1 ["p", "a", "many"] spPowers f1 fd1) (G_later_weights : Ok P w K mg base CX0 "later_weights" 1 ["p", "point", "weights"] (spLater K) f2 fd2) : Ok P w K mg base CX0 "value_weights" 2 ["p", "many", "point", "j"] spVW f fd := by
  refine D.mk' (D.F.ok sc_value_weights (fun vs H Q E h => ?_) (fun cdv A outer s H vs Q E hr h => ?_))
  · obtain ⟨p, x, n, j, rfl, _⟩ := h
    rfl
  · obtain ⟨p, x, n, j, rfl, p2, p3, n1, n2, j2, q⟩ := h
    refine ⟨_, pss_cons (ps_if (pt_cmpR op_eq (pv 2) (pv 0) (nomark _)) (pss_one (ps_ret (pe_callTy call_tuple_of rfl T.b_tuple (by decide +kernel) (pa_cons (pe_lc (own := [("t", 6)]) (g := gName 6) (tt := tYes) rfl sc_value_weights.nd (pi_range1 rfl T.b_range (pa_cons (pv 1) pa_nil)) (blkOk_by (N := N_value_weights) (sc := defScope s_value_weights) (by decide +kernel)) (fun _ _ _ _ _ => pg_name (i := 6) sc_value_weights.nd rfl (Or.inl rfl)) (fun _ _ _ _ _ => pts_nil) (fun _ _ _ _ _ => pe_ifExp (pt_cmpR op_eq (pv 6) (pe_op op_sub (pe_op op_sub (pv 1) pe_int) (pv 3)) (nomark _)) pe_int pe_int)) pa_nil)))) (pss_nil))
      (pss_cons (ps_if (pt_cmpR op_ge (pv 3) (pv 1) (nomark _)) (pss_one (ps_ret (pe_op op_repA (pe_tup (pa_cons pe_int pa_nil)) (pv 1)))) (pss_nil))
      (pss_cons (ps_set (i := 4) sc_value_weights.nd rfl (Or.inl rfl) (pe_call G_powers.ok (hr.mono (by decide)) rfl G_powers.g G_powers.k G_powers.b .nil pass0 (pa_cons (pv 0) (pa_cons (pv 2) (pa_cons (pv 1) pa_nil)))))
      (pss_cons (ps_for PassesOwn.never rfl (pi_range1 rfl T.b_range (pa_cons (pv 3) pa_nil)) (pg_name (i := 5) sc_value_weights.nd rfl (Or.inl rfl)) (pss_one (ps_set (i := 4) sc_value_weights.nd rfl (Or.inl rfl) (pe_call G_later_weights.ok (hr.mono (by decide)) rfl G_later_weights.g G_later_weights.k G_later_weights.b .nil pass0 (pa_cons (pv 0) (pa_cons (pv 2) (pa_cons (pv 4) pa_nil)))))))
      (pss_one (ps_ret (pe_callTy call_tuple_of rfl T.b_tuple (by decide +kernel) (pa_cons (pv 4) pa_nil))))))), ?_⟩
    walk_at "rd"
    refine ite2 (fun e => ?_) (fun e => ?_)
    · have e1 : x = p := by simpa using e
      walk_at "rd"
      refine ⟨by omega, by omega, fun D hD => lc_same (n := n) (fun t => V.int (if t + j + 1 = n then 1 else 0)) (by omega) hD (fun v => rfl) (fun i H1 Q1 hi s1 q1 => ?_) (fun H1 s1 hD1 => ?_)⟩
      · walk_at "rd"
        refine ite2 (fun e => ?_) (fun e => ?_)
        · have e3 : (0 : Int) + (i : Nat) = (n : Int) - 1 - (j : Nat) := by simpa using e
          have q2 := q1 H1 (.refl H1)
          rw [if_pos (by omega)] at q2
          exact q2
        · have e3 : ¬ (0 : Int) + (i : Nat) = (n : Int) - 1 - (j : Nat) := by simpa using e
          have q2 := q1 H1 (.refl H1)
          rw [if_neg (by omega)] at q2
          exact q2
      · refine ⟨D, _, rfl, .inl ⟨SqL.of hD1, fun l hl => ?_⟩⟩
        walk_at "rd"
        refine q _ l (s1.trans (same_new hl)) ?_
        rw [upd_same, vw, if_pos e1, List.map_map]
        rfl
    · have e1 : ¬ x = p := by simpa using e
      walk_at "rd"
      refine ite2 (fun e2 => ?_) (fun e2 => ?_)
      · have e3 : n ≤ j := by simpa using e2
        walk_at "rd"
        refine ⟨by show 1 ≤ sizeLine; decide, fun c hc => ?_⟩
        walk_at "rd"
        have ev : vw p n x j = wl p x j n := if_neg e1
        refine ⟨c, n, [V.int 0], rfl, rfl, SqT.of upd_same, by simp, by omega, by omega, by show 1 ≤ 1000; decide, fun h => ?_, fun h z hz => ?_⟩
        · refine q _ c (same_new hc) ?_
          have h1 : n = 1 := by omega
          rw [upd_same, ev, wl_zeros e3, h1]
          rfl
        · refine q _ z ((same_new hc).trans (same_new hz)) ?_
          rw [upd_same, ev, wl_zeros e3, Int.toNat_natCast]
      · have e3 : ¬ n ≤ j := by simpa using e2
        walk_at "rd"
        refine ⟨_, _, n, rfl, p2, p3, n1, n2, fun H1 l1 s1 f1 h1 => ?_⟩
        walk_at "rd"
        refine ⟨by omega, by omega, ?_⟩
        have ev : vw p n x j = wl p x j n := if_neg e1
        refine for_range (lo := 0) (n := ((j : Nat) : Int).toNat) (fun i σ' H' => Mid (∃ l y, σ' = [some (.int p), some (.int (n : Nat)), some (.int x), some (.int (j : Nat)), some (.ref l), y, none] ∧ Same H H' ∧ H' l = some (.lst ((wl p x i n).map V.int)))) (.mk ⟨l1, _, rfl, s1, h1⟩) ?_ ?_
        · intro i σ' H' hi m
          obtain ⟨l, y, rfl, hs, hw⟩ := m.out
          walk_at "rd"
          refine ⟨_, _, l, i, n, rfl, hw, p2, p3, n1, n2, fun H3 l3 s3 f3 h3 => ?_⟩
          walk_at "rd"
          exact .mk ⟨l3, _, rfl, hs.trans s3, h3⟩
        · intro σ' H' m
          obtain ⟨l, y, rfl, hs, hw⟩ := m.out
          rw [Int.toNat_natCast] at hw
          walk_at "rd"
          refine ⟨l, _, rfl, .inl ⟨SqL.of hw, fun c hc => ?_⟩⟩
          refine q _ c (hs.trans (same_new hc)) ?_
          rw [upd_same, ev]
theorem ok_value {f f1 : Addr} {fd fd1 : FuncData} (D : DefAt K mg "value" s_value ["p", "form", "point", "j"] f fd) (T : Txt K mg) (G_value_weights : Ok P w K mg base CX0 "value_weights" 2 ["p", "many", "point", "j"] spVW f1 fd1) : Ok P w K mg base CX0 "value" 3 ["p", "form", "point", "j"] spValue f fd := by
  refine D.mk' (D.F.ok sc_value (fun vs H Q E h => ?_) (fun cdv A outer s H vs Q E hr h => ?_))
  · obtain ⟨p, x, a, fs, j, rfl, _⟩ := h
    rfl
  · obtain ⟨p, x, a, fs, j, rfl, ha, p2, p3, n1, n2, j2, q⟩ := h
    refine ⟨_, pss_cons (ps_set (i := 4) sc_value.nd rfl (Or.inl rfl) (pe_call G_value_weights.ok (hr.mono (by decide)) rfl G_value_weights.g G_value_weights.k G_value_weights.b .nil pass0 (pa_cons (pv 0) (pa_cons (pe_callB call_len_seq rfl T.b_len PySem.boot_len (pa_cons (pv 1) pa_nil)) (pa_cons (pv 2) (pa_cons (pv 3) pa_nil))))))
      (pss_one (ps_ret (pe_op op_mod (pe_callB (cr_sum rfl) rfl T.b_sum (by decide +kernel) (pa_cons (pe_lc (own := [("a", 5), ("weight", 6)]) (g := gTup K 2 (gCons (gName 5) (gCons (gName 6) gNil))) (tt := tYes) rfl sc_value.nd (RZ.pi_zipA rfl T.b_zip (pa_cons (pv 1) (pa_cons (pv 4) pa_nil))) (blkOk_by (N := N_value) (sc := defScope s_value) (by decide +kernel)) (fun _ _ _ _ _ => pg_tup rfl (pgs_cons (pg_name (i := 5) sc_value.nd rfl (Or.inl rfl)) (pgs_cons (pg_name (i := 6) sc_value.nd rfl (Or.inl rfl)) pgs_nil))) (fun _ _ _ _ _ => pts_nil) (fun _ _ _ _ _ => pe_op op_mulB (pv 5) (pv 6))) pa_nil)) (pv 0)))), ?_⟩
    walk_at "rd"
    refine ⟨p, x, fs.length, j, by rw [List.length_map]; rfl, p2, p3, n1, n2, j2, fun H1 l1 s1 h1 => ?_⟩
    walk_at "rd"
    have ha1 := s1 _ _ ha
    have hl : (fs.map V.int).length = ((vw p fs.length x j).map V.int).length := by rw [List.length_map, List.length_map, vw_len]
    refine ⟨a, l1, _, _, rfl, .inr ⟨SqT.of ha1, SqT.of h1, fun D hD => ?_⟩⟩
    refine lc_zipT (K := K) (a := a) (b := l1) (xs := fs.map V.int) (ys := (vw p fs.length x j).map V.int) hl (fun i Hc => Same H1 Hc ∧ Hc D = some (.lst (((List.zipWith (· * ·) fs (vw p fs.length x j)).take i).map V.int))) ⟨same_new hD, by rw [upd_same]; rfl⟩ (fun i Hc hc => ⟨SqT.of (hc.1 _ _ ha1), SqT.of (hc.1 _ _ h1)⟩) ?_ ?_
    · rintro i u v Tt Hc hx hy ⟨hsc, hdc⟩ hT
      rw [List.getElem?_map] at hx hy
      cases hfx : fs[i]? with
      | none => rw [hfx] at hx; cases hx
      | some fx =>
        cases hwx : (vw p fs.length x j)[i]? with
        | none => rw [hwx] at hy; cases hy
        | some wx =>
          rw [hfx] at hx
          rw [hwx] at hy
          cases hx
          cases hy
          have sT := same_new (o := .tup [V.int fx, V.int wx]) hT
          refine ⟨Tt, _, rfl, SqT.of upd_same, rfl, _, _, rfl, _, _, rfl, rfl, rfl, ?_⟩
          obtain ⟨w1, w2⟩ := vw_bd p2 hwx
          simp only [tYes, if_true]
          walk_at "rd"
          refine ⟨_, sT _ _ hdc, ?_, ?_, ?_⟩
          · rw [List.length_map, List.length_take]
            have hi := (List.getElem?_eq_some_iff.mp hfx).1
            exact small1000 (by omega)
          · intro b o e
            rw [upd_ne (ne_of_none e hD)]
            exact sT _ _ (hsc _ _ e)
          · rw [upd_same, zw_take hfx hwx, List.map_append]
            rfl
    · rintro Hc ⟨hsc, hdc⟩
      refine ⟨D, _, rfl, SqL.of hdc, ?_⟩
      walk_at "rd"
      have e : ((List.zipWith (· * ·) fs (vw p fs.length x j)).take (fs.map V.int).length).sum = dotZ fs (vw p fs.length x j) := by
        rw [List.length_map, zw_all (by rw [vw_len]), dot_sum]
      rw [e]
      exact q Hc (s1.trans hsc)
end

section
variable {P : Program} {w : World} {K : PySem.W.Frag} {mg : Str → Option Value} {base : Heap} {TZ : Tabz}
def spPointOf : Sp := fun vs H Q _ => ∃ (g : Addr) (p : Int) (k : Nat) (pts : List Int) (i : Nat) (x : Int), vs = [.ref g, .int (i : Nat)] ∧ GroundAt H g p k pts ∧ pts[i]? = some x ∧ Q (.int x) H
def rowL (p : Int) (fs : List Int) (x : Int) (n : Nat) : List Int := (List.range n).map fun j => valZ p fs x j
def spRow (TZ : Tabz) : Sp := fun vs H Q _ => ∃ (g a : Addr) (p : Int) (k : Nat) (pts fs : List Int) (i n : Nat) (x : Int), vs = [.ref g, .ref a, .int (i : Nat), .int (n : Nat)] ∧ GroundAt H g p k pts ∧ BatchAt H a p k fs ∧ pts[i]? = some x ∧ n ≤ 1024 ∧ LamX.Tabs TZ H ∧
  ∀ H' r, LamX.ExtN H H' → LamX.Tabs TZ H' → H' r = some (.tup ((rowL p fs x n).map V.int)) → Q (.ref r) H'
theorem ok_point_of {f f1 : Addr} {fd fd1 : FuncData} (D : DefAt K mg "point_of" s_point_of ["ground", "shelf"] f fd) (T : Txt K mg) (G_number_between : Ok P w K mg base CX0 "number_between" 2 ["thing", "least", "most"] (spBetween K) f1 fd1) : Ok P w K mg base CX0 "point_of" 3 ["ground", "shelf"] spPointOf f fd := by
  refine D.mk' (D.F.ok sc_point_of (fun vs H Q E h => ?_) (fun cdv A outer s H vs Q E hr h => ?_))
  · obtain ⟨g, p, k, pts, i, x, rfl, _⟩ := h
    rfl
  · obtain ⟨g, p, k, pts, i, x, rfl, ⟨b, hg, hb, pr, k1, k2, ig⟩, hx, q⟩ := h
    have hi := (List.getElem?_eq_some_iff.mp hx).1
    refine ⟨_, pss_cons (ps_set (i := 2) sc_point_of.nd rfl (Or.inl rfl) (pe_ix ix_tup (pv 0) pe_int (fun _ _ => rfl)))
      (pss_cons (ps_if (pt_not (pt_val (pe_call G_number_between.ok (hr.mono (by decide)) rfl G_number_between.g G_number_between.k G_number_between.b .nil pass0 (pa_cons (pv 1) (pa_cons pe_int (pa_cons (pe_op op_sub (pe_callB call_len_seq rfl T.b_len PySem.boot_len (pa_cons (pv 2) pa_nil)) pe_int) pa_nil)))))) (pss_one (ps_dead)) (pss_nil))
      (pss_one (ps_ret (pe_ix ix_tup (pv 2) (pv 1) (fun _ _ => rfl))))), ?_⟩
    walk_at "rd"
    refine ⟨_, _, _, rfl, kn_int _, ?_⟩
    have e2 : betV 0 ((((pts.map V.int).length : Nat) : Int) - 1) (.int (i : Nat)) = true := by
      show (decide ((0 : Int) ≤ (i : Nat)) && decide (((i : Nat) : Int) ≤ _)) = true
      rw [decide_eq_true (by omega), decide_eq_true (by rw [List.length_map]; omega)] <;> rfl
    rw [e2]
    walk_at "rd"
    refine ⟨b, _, _, V.int x, rfl, rfl, SqT.of hb, atI_nat (by rw [List.getElem?_map, hx]; rfl), ?_⟩
    exact q
theorem ok_row {f f1 f2 f3 f4 : Addr} {fd fd1 fd2 fd3 fd4 : FuncData} (D : DefAt K mg "row" s_row ["ground", "batch", "shelf", "many"] f fd) (T : Txt K mg) (G_made_batch : Ok P w K mg base CX0 "made_batch" 9 ["ground", "thing"] (spMadeBatch TZ) f1 fd1) (G_point_of : Ok P w K mg base CX0 "point_of" 3 ["ground", "shelf"] spPointOf f2 fd2)
    (G_number_between : Ok P w K mg base CX0 "number_between" 2 ["thing", "least", "most"] (spBetween K) f3 fd3) (G_value : Ok P w K mg base CX0 "value" 3 ["p", "form", "point", "j"] spValue f4 fd4) : Ok P w K mg base CX0 "row" 10 ["ground", "batch", "shelf", "many"] (spRow TZ) f fd := by
  refine D.mk' (D.F.ok sc_row (fun vs H Q E h => ?_) (fun cdv A outer s H vs Q E hr h => ?_))
  · obtain ⟨g, a, p, k, pts, fs, i, n, x, rfl, _⟩ := h
    rfl
  · obtain ⟨g, a, p, k, pts, fs, i, n, x, rfl, hg, ha, hx, hn, tb, q⟩ := h
    obtain ⟨_, h_MOST_CELLS⟩ := T.c_MOST_CELLS
    refine ⟨_, pss_cons (ps_expr (pe_call G_made_batch.ok (hr.mono (by decide)) rfl G_made_batch.g G_made_batch.k G_made_batch.b .nil pass0 (pa_cons (pv 0) (pa_cons (pv 1) pa_nil))))
      (pss_cons (ps_set (i := 4) sc_row.nd rfl (Or.inr rfl) (pe_call G_point_of.ok (hr.mono (by decide)) rfl G_point_of.g G_point_of.k G_point_of.b .nil pass0 (pa_cons (pv 0) (pa_cons (pv 2) pa_nil))))
      (pss_cons (ps_if (pt_not (pt_val (pe_call G_number_between.ok (hr.mono (by decide)) rfl G_number_between.g G_number_between.k G_number_between.b .nil pass0 (pa_cons (pv 3) (pa_cons pe_int (pa_cons (pe_glob (v := .int 1024) rfl h_MOST_CELLS ⟨_, rfl⟩) pa_nil)))))) (pss_one (ps_dead)) (pss_nil))
      (pss_one (ps_ret (pe_callTy call_tuple_of rfl T.b_tuple (by decide +kernel) (pa_cons (pe_lc (own := [("j", 5)]) (g := gName 5) (tt := tYes) rfl sc_row.nd (pi_range1 rfl T.b_range (pa_cons (pv 3) pa_nil)) (blkOk_by (N := N_row) (sc := defScope s_row) (by decide +kernel)) (fun _ _ _ _ _ => pg_name (i := 5) sc_row.nd rfl (Or.inl rfl)) (fun _ _ _ _ _ => pts_nil) (fun _ _ _ _ _ => pe_call G_value.ok (hr.mono (by decide)) rfl G_value.g G_value.k G_value.b .nil pass0 (pa_cons (pe_ix (ix_tupK K) (pv 0) pe_int (fun _ _ => rfl)) (pa_cons (pv 1) (pa_cons (pv 4) (pa_cons (pv 5) pa_nil)))))) pa_nil)))))), ?_⟩
    walk_at "rd"
    refine ⟨g, a, p, k, pts, fs, rfl, hg, ha, tb, fun H1 e1 t1 => ?_⟩
    walk_at "rd"
    refine ⟨g, p, k, pts, i, x, rfl, hg.ext e1, hx, ?_⟩
    walk_at "rd"
    refine ⟨_, _, _, rfl, kn_int _, ?_⟩
    have e2 : betV 0 1024 (.int (n : Nat)) = true := by
      show (decide ((0 : Int) ≤ (n : Nat)) && decide (((n : Nat) : Int) ≤ 1024)) = true
      rw [decide_eq_true (by omega), decide_eq_true (by omega)] <;> rfl
    rw [e2]
    walk_at "rd"
    obtain ⟨b, hg1, hb1, pr, k1, k2, ig⟩ := hg.ext e1
    have ha1 := ha.ext e1
    refine ⟨by omega, by omega, fun D1 hD => lc_same (n := n) (fun j => V.int (valZ p fs x j)) (by omega) hD (fun v => rfl) (fun j H2 Q2 hj s2 q2 => ?_) (fun H2 s2 hD2 => ?_)⟩
    · have hg2 := s2 _ _ hg1
      have ha2 := s2 _ _ ha1.1
      walk_at "rd"
      refine ⟨p, x, a, fs, j, by rw [Int.zero_add]; rfl, ha2, pr.1, by have := pr.2.1; omega, by rw [ha1.2.1]; exact k1, by rw [ha1.2.1]; omega, by omega, fun H4 s4 => q2 H4 s4⟩
    · refine ⟨D1, _, rfl, .inl ⟨SqL.of hD2, fun l hl => ?_⟩⟩
      have s3 := s2.trans (same_new (o := .tup ((List.range n).map fun j => V.int (valZ p fs x j))) hl)
      refine q _ l (e1.trans (.of s3)) (t1.ext s3) ?_
      rw [upd_same, rowL, List.map_map]
      rfl
def spTurned : Sp := fun vs H Q _ => ∃ (p l : Addr) (n : Nat), vs = [.ref p, .int (n : Nat)] ∧ PoolAt H p l ∧ 1 ≤ n ∧ n ≤ 20 ∧ ∀ (H' : Hp) (t : Addr) (ns : List Int), But p l H H' → PoolAt H' p l → H t = none → H' t = some (.lst (ns.map V.int)) → ns.Nodup → (∀ x ∈ ns, 0 ≤ x ∧ x < n) → ns.length = n → Q (.ref t) H'
theorem ok__law_turned {f f1 : Addr} {fd fd1 : FuncData} (D : DefAt K mg "_law_turned" s__law_turned ["pool", "many"] f fd) (T : Txt K mg) (G__law_draw : Ok P w K mg base CX0 "_law_draw" 1 ["pool", "many"] spDraw f1 fd1) : Ok P w K mg base CX0 "_law_turned" 2 ["pool", "many"] spTurned f fd := by
  refine D.mk' (D.F.ok sc__law_turned (fun vs H Q E h => ?_) (fun cdv A outer s H vs Q E hr h => ?_))
  · obtain ⟨p, l, n, rfl, _⟩ := h
    rfl
  · obtain ⟨p, l, n, rfl, hP, n1, n2, q⟩ := h
    refine ⟨_, pss_cons (ps_par (i := 2) (j := 3) rfl sc__law_turned.nd rfl rfl (by decide) rfl rfl (pa_cons (pe_listRg rfl rfl T.b_list (prg_1 rfl T.b_range (pv 1))) (pa_cons (pe_lst pa_nil) pa_nil)) rfl)
      (pss_cons (ps_for PassesOwn.never rfl (pi_range1 rfl T.b_range (pa_cons (pv 1) pa_nil)) (pg_name (i := 4) sc__law_turned.nd rfl (Or.inl rfl)) (pss_one (ps_expr (pe_bm PySem.F.plainAttrs_list PySem.F.slot_list_append PySem.F.type_list_append mt_append (pv 3) (pa_cons (pe_bm PySem.F.plainAttrs_list PySem.F.slot_list_pop PySem.F.type_list_pop mt_popAt (pv 2) (pa_cons (pe_call G__law_draw.ok (hr.mono (by decide)) rfl G__law_draw.g G__law_draw.k G__law_draw.b .nil pass0 (pa_cons (pv 0) (pa_cons (pe_callB call_len_seq rfl T.b_len PySem.boot_len (pa_cons (pv 2) pa_nil)) pa_nil))) pa_nil)) pa_nil)))))
      (pss_one (ps_ret (pv 3)))), ?_⟩
    walk_at "rd"
    refine ⟨RgOk.of_le (by omega) (by omega) (by omega) (by omega), fun ll hll => ?_⟩
    walk_at "rd"
    refine ⟨by show 0 ≤ sizeLine; decide, fun tt htt => ?_⟩
    walk_at "rd"
    have nllp : ll ≠ p := (hP.ne hll).1
    have nlll : ll ≠ l := (hP.ne hll).2
    have hT : H tt = none := by
      by_cases z : tt = ll
      · rw [z]; exact hll
      · rw [upd_ne z] at htt; exact htt
    have ntl : tt ≠ ll := fun z => by rw [z, upd_same] at htt; cases htt
    have ntp : tt ≠ p := (hP.ne hT).1
    have ntL : tt ≠ l := (hP.ne hT).2
    refine ⟨by omega, by omega, ?_⟩
    refine for_range (lo := 0) (n := ((n : Nat) : Int).toNat) (fun i σ' H' => Mid (∃ (y : Option V) (ls fs : List Int), σ' = [some (.ref p), some (.int (n : Nat)), some (.ref ll), some (.ref tt), y] ∧ PoolAt H' p l ∧ But p l H H' ∧ H' ll = some (.lst (ls.map V.int)) ∧ H' tt = some (.lst (fs.map V.int)) ∧ (ls ++ fs).Perm (ups n) ∧ fs.length = i)) ?_ ?_ ?_
    · refine .mk ⟨_, ups n, [], rfl, (hP.upd nllp nlll).upd ntp ntL, ((But.refl p l H).new hll).new hT, by rw [upd_ne ntl.symm, upd_same, ups_rg], by rw [upd_same]; rfl, by rw [List.append_nil], rfl⟩
    · intro i σ' H' hi m
      obtain ⟨y, ls, fs, rfl, hP1, hB1, hl1, ht1, hp1, hf1⟩ := m.out
      have hlen := hp1.length_eq
      rw [List.length_append, ups_len] at hlen
      walk_at "rd"
      refine ⟨p, l, ((ls.map V.int).length : Nat), rfl, hP1, by rw [List.length_map]; omega, by rw [List.length_map]; omega, fun v H2 v0 v1 hP2 hB2 => ?_⟩
      rw [List.length_map] at v1
      have hk : v.toNat < ls.length := by omega
      have hl2 := hB2 _ _ nllp nlll hl1
      have ht2 := hB2 _ _ ntp ntL ht1
      walk_at "rd"
      refine ⟨ll, _, _, v.toNat, V.int ls[v.toNat], rfl, rfl, hl2, by omega, by omega, by rw [List.length_map]; exact seqN v0 v1, by rw [List.getElem?_map, List.getElem?_eq_getElem hk]; rfl, ?_⟩
      walk_at "rd"
      refine ⟨tt, _, _, rfl, rfl, by rw [upd_ne ntl]; exact ht2, by rw [List.length_map]; exact small1000 (by omega), ?_⟩
      walk_at "rd"
      refine .mk ⟨_, ls.eraseIdx v.toNat, fs ++ [ls[v.toNat]], rfl, (hP2.upd nllp nlll).upd ntp ntL, ((hB1.trans hB2).new hll).new hT, ?_, ?_, turn_perm hk hp1, ?_⟩
      · rw [upd_ne ntl.symm, upd_same, map_erase]
      · rw [upd_same, List.map_append]
        rfl
      · rw [List.length_append, hf1]
        rfl
    · intro σ' H' m
      obtain ⟨y, ls, fs, rfl, hP1, hB1, hl1, ht1, hp1, hf1⟩ := m.out
      rw [Int.toNat_natCast] at hf1
      have hlen := hp1.length_eq
      rw [List.length_append, ups_len] at hlen
      have e : ls = [] := List.eq_nil_of_length_eq_zero (by omega)
      subst e
      rw [List.nil_append] at hp1
      walk_at "rd"
      exact q H' tt fs hB1 hP1 hT ht1 (hp1.nodup_iff.mpr (ups_nodup n)) (fun x hx => ups_mem (hp1.mem_iff.mp hx)) hf1
def spBatch : Sp := fun vs H Q _ => ∃ (p l g : Addr) (q : Int) (k : Nat) (pts : List Int), vs = [.ref p, .ref g] ∧ PoolAt H p l ∧ g ≠ p ∧ g ≠ l ∧ GroundAt H g q k pts ∧ ∀ (H' : Hp) (a : Addr) (fs : List Int), But p l H H' → PoolAt H' p l → H a = none → BatchAt H' a q k fs → Q (.ref a) H'
theorem ok__law_batch {f f1 : Addr} {fd fd1 : FuncData} (D : DefAt K mg "_law_batch" s__law_batch ["pool", "ground"] f fd) (T : Txt K mg) (G__law_draw : Ok P w K mg base CX0 "_law_draw" 1 ["pool", "many"] spDraw f1 fd1) : Ok P w K mg base CX0 "_law_batch" 2 ["pool", "ground"] spBatch f fd := by
  refine D.mk' (D.F.ok sc__law_batch (fun vs H Q E h => ?_) (fun cdv A outer s H vs Q E hr h => ?_))
  · obtain ⟨p, l, g, q, k, pts, rfl, _⟩ := h
    rfl
  · obtain ⟨p, l, g, z, k, pts, rfl, hP, g1, g2, ⟨b, hg, hb, pr, k1, k2, ig⟩, q⟩ := h
    refine ⟨_, pss_cons (ps_asg (pv 1) (pg_tup rfl (pgs_cons (pg_name (i := 2) sc__law_batch.nd rfl (Or.inr rfl)) (pgs_cons (pg_name (i := 3) sc__law_batch.nd rfl (Or.inl rfl)) (pgs_cons (pg_name (i := 4) sc__law_batch.nd rfl (Or.inl rfl)) pgs_nil)))))
      (pss_cons (ps_if (pt_cmpR op_gt (pe_call G__law_draw.ok (hr.mono (by decide)) rfl G__law_draw.g G__law_draw.k G__law_draw.b .nil pass0 (pa_cons (pv 0) (pa_cons pe_int pa_nil))) pe_int (nomark _)) (pss_one (ps_ret (pe_callTy call_tuple_of rfl T.b_tuple (by decide +kernel) (pa_cons (pe_lc (own := [("place", 5)]) (g := gName 5) (tt := tYes) rfl sc__law_batch.nd (pi_range1 rfl T.b_range (pa_cons (pv 3) pa_nil)) (blkOk_by (N := N__law_batch) (sc := defScope s__law_batch) (by decide +kernel)) (fun _ _ _ _ _ => pg_name (i := 5) sc__law_batch.nd rfl (Or.inl rfl)) (fun _ _ _ _ _ => pts_nil) (fun _ _ _ _ _ => pe_call G__law_draw.ok (hr.mono (by decide)) rfl G__law_draw.g G__law_draw.k G__law_draw.b .nil pass0 (pa_cons (pv 0) (pa_cons (pv 2) pa_nil)))) pa_nil)))) (pss_nil))
      (pss_cons (ps_set (i := 5) sc__law_batch.nd rfl (Or.inr rfl) (pe_call G__law_draw.ok (hr.mono (by decide)) rfl G__law_draw.g G__law_draw.k G__law_draw.b .nil pass0 (pa_cons (pv 0) (pa_cons (pv 3) pa_nil))))
      (pss_one (ps_ret (pe_callTy call_tuple_of rfl T.b_tuple (by decide +kernel) (pa_cons (pe_lc (own := [("at", 6)]) (g := gName 6) (tt := tYes) rfl sc__law_batch.nd (pi_range1 rfl T.b_range (pa_cons (pv 3) pa_nil)) (blkOk_by (N := N__law_batch) (sc := defScope s__law_batch) (by decide +kernel)) (fun _ _ _ _ _ => pg_name (i := 6) sc__law_batch.nd rfl (Or.inl rfl)) (fun _ _ _ _ _ => pts_nil) (fun _ _ _ _ _ => pe_ifExp (pt_cmpR op_eq (pv 6) (pv 5) (nomark _)) (pe_op op_sub (pv 2) pe_int) pe_int)) pa_nil)))))), ?_⟩
    walk_at "rd"
    refine ⟨g, _, rfl, SqT.of hg, rfl, ?_⟩
    walk_at "rd"
    refine ⟨p, l, 4, rfl, hP, by decide, by decide, fun v H1 v0 v1 hP1 hB1 => ?_⟩
    have hg1 := hB1 _ _ g1 g2 hg
    have z2 := pr.1
    have z3 := pr.2.1
    walk_at "rd"
    refine ite2 (fun e => ?_) (fun e => ?_)
    · walk_at "rd"
      refine ⟨by omega, by omega, fun D1 hD => lc_pool (n := ((k : Nat) : Int).toNat) (fun y => ∃ i : Int, y = .int i ∧ 0 ≤ i ∧ i < z) (by omega) hD hP1 (fun v => rfl) (fun j H2 Q2 hj hP2 hB2 q2 => ?_) (fun H2 ys hP2 hB2 hD2 hl2 hv2 => ?_)⟩
      · walk_at "rd"
        exact ⟨p, l, z, rfl, hP2, by omega, by omega, fun y H4 y0 y1 hP4 hB4 => q2 _ _ ⟨y, rfl, y0, y1⟩ hP4 hB4⟩
      · obtain ⟨ns, rfl, hns⟩ := ints_of hv2
        refine ⟨D1, _, rfl, .inl ⟨SqL.of hD2, fun c hc => ?_⟩⟩
        walk_at "rd"
        have hB3 := hB1.trans hB2
        have hcH := hB3.free hP2 hc
        refine q _ c ns (hB3.new hcH) (hP2.upd (hP2.ne hc).1 (hP2.ne hc).2) hcH ⟨upd_same, ?_, hns⟩
        rw [List.length_map] at hl2
        omega
    · walk_at "rd"
      refine ⟨p, l, (k : Nat), rfl, hP1, by omega, by omega, fun v3 H3 v4 v5 hP3 hB3 => ?_⟩
      walk_at "rd"
      refine ⟨by omega, by omega, fun D1 hD => lc_same (n := ((k : Nat) : Int).toNat) (fun t => V.int (if ((t : Nat) : Int) = v3 then z - 1 else 0)) (by omega) hD (fun v => rfl) (fun j H2 Q2 hj s2 q2 => ?_) (fun H2 s2 hD2 => ?_)⟩
      · walk_at "rd"
        refine ite2 (fun e => ?_) (fun e => ?_)
        · have e3 : (0 : Int) + (j : Nat) = v3 := by simpa using e
          have q3 := q2 H2 (.refl H2)
          rw [if_pos (by omega)] at q3
          walk_at "rd"
          exact q3
        · have e3 : ¬ (0 : Int) + (j : Nat) = v3 := by simpa using e
          have q3 := q2 H2 (.refl H2)
          rw [if_neg (by omega)] at q3
          exact q3
      · refine ⟨D1, _, rfl, .inl ⟨SqL.of hD2, fun c hc => ?_⟩⟩
        walk_at "rd"
        have hP4 := hP3.same s2
        have hB4 := (hB1.trans hB3).trans (Same.but s2)
        have hcH := hB4.free hP4 hc
        refine q _ c ((List.range ((k : Nat) : Int).toNat).map fun t => if ((t : Nat) : Int) = v3 then z - 1 else 0) (hB4.new hcH) (hP4.upd (hP4.ne hc).1 (hP4.ne hc).2) hcH ⟨?_, ?_, ?_⟩
        · rw [upd_same, List.map_map]
          rfl
        · rw [List.length_map, List.length_range]
          omega
        · intro x hx
          obtain ⟨t, _, rfl⟩ := List.mem_map.mp hx
          split <;> omega
end

section
variable {P : Program} {w : World} {K : PySem.W.Frag} {mg : Str → Option Value} {base : Heap} {TZ : Tabz}
def spWritten : Sp := fun vs H Q _ => ∃ (p x : Int) (a : Addr) (fs : List Int), vs = [.int p, .ref a, .int x] ∧ BatchAt H a p fs.length fs ∧ 2 ≤ p ∧ p < 70000 ∧ 0 ≤ x ∧ x ≤ p ∧ 1 ≤ fs.length ∧ fs.length ≤ 100 ∧ ∀ H' t, Same H H' → H' t = some (.lst ((rowL p fs x fs.length).map V.int)) → Q (.ref t) H'
theorem ok__law_written_out {f : Addr} {fd : FuncData} (D : DefAt K mg "_law_written_out" s__law_written_out ["p", "form", "point"] f fd) (T : Txt K mg) : Ok P w K mg base CX0 "_law_written_out" 1 ["p", "form", "point"] spWritten f fd := by
  refine D.mk' (D.F.ok sc__law_written_out (fun vs H Q E h => ?_) (fun cdv A outer s H vs Q E hr h => ?_))
  · obtain ⟨p, x, a, fs, rfl, _⟩ := h
    rfl
  · obtain ⟨p, x, a, fs, rfl, ⟨ha, _, hv⟩, p2, p3, x0, x1, l1, l2, q⟩ := h
    refine ⟨_, pss_cons (ps_if (pt_cmpR op_eq (pv 2) (pv 0) (nomark _)) (pss_one (ps_ret (pe_callTy call_list_of rfl T.b_list (by decide +kernel) (pa_cons (pe_revT (pv 1)) pa_nil)))) (pss_nil))
      (pss_cons (ps_set (i := 3) sc__law_written_out.nd rfl (Or.inl rfl) (pe_lst pa_nil))
      (pss_cons (ps_for PassesOwn.never rfl (pi_tup (pe_revT (pv 1))) (pg_name (i := 4) sc__law_written_out.nd rfl (Or.inl rfl)) (pss_cons (ps_set (i := 5) sc__law_written_out.nd rfl (Or.inr rfl) (pe_op op_cat (pv 3) (pe_lst (pa_cons pe_int pa_nil))))
      (pss_cons (ps_setLc (i := 3) (own := [("at", 6)]) (g := gName 6) (tt := tYes) rfl sc__law_written_out.nd rfl rfl (sw_true rfl rfl rfl (by decide +kernel)) (pi_range1 rfl T.b_range (pa_cons (pe_callB call_len_seq rfl T.b_len PySem.boot_len (pa_cons (pv 5) pa_nil)) pa_nil)) (blkOk_by (N := N__law_written_out) (sc := defScope s__law_written_out) (by decide +kernel)) (fun _ _ _ _ _ => pg_name (i := 6) sc__law_written_out.nd rfl (Or.inl rfl)) (fun _ _ _ _ _ => pts_nil) (fun _ _ _ _ _ => pe_op op_mod (pe_callTy call_int1 rfl T.b_int (by decide +kernel) (pa_cons (pe_op op_add (pe_op op_mulB (pv 2) (pe_ix (ix_listK K) (pv 5) (pv 6) (fun _ _ => rfl))) (pe_ifExp (pt_cmpR op_gt (pv 6) pe_int (nomark _)) (pe_ix (ix_listK K) (pv 5) (pe_op op_sub (pv 6) pe_int) (fun _ _ => rfl)) pe_int)) pa_nil)) (pv 0)))
      (pss_one (ps_asg (pe_op op_mod (pe_callTy call_int1 rfl T.b_int (by decide +kernel) (pa_cons (pe_op op_add (pe_ix ix_list (pv 3) pe_int (fun _ _ => rfl)) (pv 4)) pa_nil)) (pv 0)) (pg_sub (pv 3) pe_int set_list))))))
      (pss_one (ps_ret (pv 3))))), ?_⟩
    walk_at "rd"
    refine ite2 (fun e => ?_) (fun e => ?_)
    · have e1 : x = p := by simpa using e
      subst e1
      walk_at "rd"
      refine ⟨a, _, rfl, SqT.of ha, fun r hr2 => ?_⟩
      walk_at "rd"
      refine ⟨r, _, rfl, .inr (SqT.of upd_same), fun t ht => ?_⟩
      walk_at "rd"
      refine q _ t ((same_new hr2).trans (same_new ht)) ?_
      rw [upd_same, ← List.map_reverse, rev_val hv]
      rfl
    · have e1 : ¬ x = p := by simpa using e
      walk_at "rd"
      refine ⟨by show 0 ≤ sizeLine; decide, fun c hc => ?_⟩
      walk_at "rd"
      have s0 := same_new (o := .lst []) hc
      refine ⟨a, _, rfl, SqT.of (s0 _ _ ha), fun r hr2 => ?_⟩
      have s1 := s0.trans (same_new (o := .tup (fs.map V.int).reverse) hr2)
      have hR : H r = none := s0.free hr2
      have nrc : r ≠ c := fun z => by rw [z, upd_same] at hr2; cases hr2
      have hlen : ((fs.map V.int).reverse).length = fs.length := by rw [List.length_reverse, List.length_map]
      refine ⟨r, rfl, ⟨_, SqT.of upd_same⟩, ?_⟩
      refine for_tup (K := K) (a := r) (xs := (fs.map V.int).reverse) (fun i σ' H' => Mid (∃ (y4 y5 : Option V) (t : Addr), σ' = [some (.int p), some (.ref a), some (.int x), some (.ref t), y4, y5, none] ∧ Same H H' ∧ H' r = some (.tup (fs.map V.int).reverse) ∧ H t = none ∧ H' t = some (.lst ((wr p x (fs.reverse.take i).reverse).map V.int)))) ?_ ?_ ?_ ?_
      · exact .mk ⟨_, _, c, rfl, s1, upd_same, hc, by rw [upd_ne nrc.symm, upd_same]; rfl⟩
      · intro i σ' H' hi m
        obtain ⟨y4, y5, t, rfl, hs, hr3, ht, hw⟩ := m.out
        exact SqT.of hr3
      · intro i y σ' H' hy m
        obtain ⟨y4, y5, t, rfl, hs, hr3, ht, hw⟩ := m.out
        have hi : i < fs.length := by
          have := (List.getElem?_eq_some_iff.mp hy).1
          omega
        have hfi : fs.reverse[i]? = some (fs.reverse[i]'(by rw [List.length_reverse]; exact hi)) := List.getElem?_eq_getElem _
        generalize fs.reverse[i]'(by rw [List.length_reverse]; exact hi) = fi at hfi
        rw [← List.map_reverse, List.getElem?_map, hfi] at hy
        cases hy
        have hgl : (fs.reverse.take i).reverse.length = i := by rw [List.length_reverse, List.length_take, List.length_reverse]; omega
        have hnx : (fs.reverse.take (i + 1)).reverse = fi :: (fs.reverse.take i).reverse := by
          rw [List.take_add_one, hfi, List.reverse_append]
          rfl
        rw [hnx]
        generalize (fs.reverse.take i).reverse = g at hw hgl
        walk_at "rd"
        refine ⟨by show 1 ≤ sizeLine; decide, fun u hu => ?_⟩
        walk_at "rd"
        have hw2 := same_new (o := .lst [V.int 0]) hu _ _ hw
        refine ⟨t, u, _, _, rfl, rfl, hw2, upd_same, by rw [List.length_map, wr_len]; exact Nat.le_of_lt (small1000 (by show g.length + 1 ≤ 1000; omega)), fun v hv => ?_⟩
        have s3 := (same_new (o := .lst [V.int 0]) hu).trans (same_new (o := .lst ((wr p x g).map V.int ++ [V.int 0])) hv)
        have hv2 : upd (upd H' u (.lst [V.int 0])) v (.lst ((wr p x g).map V.int ++ [V.int 0])) v = some (.lst ((wr p x g ++ [0]).map V.int)) := by
          rw [upd_same, List.map_append]
          rfl
        generalize upd (upd H' u (.lst [V.int 0])) v (.lst ((wr p x g).map V.int ++ [V.int 0])) = H2 at s3 hv2
        walk_at "rd"
        have hln : ((wr p x g ++ [0]).map V.int).length = g.length + 1 := by rw [List.length_map, List.length_append, wr_len]; rfl
        refine ⟨by omega, by omega, fun D1 hD => lc_same (fun i => V.int (nxt p x g i)) (by omega) hD (fun v => rfl) (fun j H3 Q3 hj s4 q3 => ?_) (fun H3 s4 hD3 => ?_)⟩
        · have hv3 := s4 _ _ hv2
          have hj2 : j ≤ g.length := by omega
          walk_at "rd"
          refine ⟨v, _, _, V.int (dW x j g 0 % p), rfl, rfl, SqL.of hv3, by rw [Int.zero_add]; exact atI_nat (by rw [List.getElem?_map, wr_get hj2]; rfl), ?_⟩
          walk_at "rd"
          refine ite2 (fun e => ?_) (fun e => ?_)
          · have e3 : (0 : Int) < 0 + (j : Nat) := of_decide_eq_true e
            walk_at "rd"
            refine ⟨v, _, _, V.int (dW x (j - 1) g 0 % p), rfl, rfl, SqL.of hv3, by rw [show (0 : Int) + (j : Nat) - 1 = ((j - 1 : Nat) : Int) by omega]; exact atI_nat (by rw [List.getElem?_map, wr_get (by omega)]; rfl), ?_⟩
            walk_at "rd"
            have q4 := q3 H3 (.refl H3)
            unfold nxt at q4
            rw [if_neg (by omega)] at q4
            exact q4
          · have e3 : ¬ (0 : Int) < 0 + (j : Nat) := fun z => e (decide_eq_true z)
            have q4 := q3 H3 (.refl H3)
            unfold nxt at q4
            rw [if_pos (by omega)] at q4
            walk_at "rd"
            exact q4
        · rw [hln] at hD3
          have hD4 : H3 D1 = some (.lst (((List.range (g.length + 1)).map fun i => nxt p x g i).map V.int)) := by
            rw [List.map_map]
            exact hD3
          have hDH : H D1 = none := (hs.trans s3).free hD
          walk_at "rd"
          refine ⟨D1, _, 0, V.int (nxt p x g 0), rfl, rfl, SqL.of hD4, atI_nat (j := 0) (by rw [List.range_succ_eq_map]; rfl), ?_⟩
          walk_at "rd"
          refine ⟨D1, _, 0, 0, rfl, rfl, hD4, ?_, ?_⟩
          · unfold ixN
            rw [if_pos (by decide), if_pos (by rw [List.length_map, List.length_map, List.length_range]; omega)]
            rfl
          · have hr4 := s3 _ _ hr3
            have nr : r ≠ D1 := ne_of_none hr4 hD
            refine .mk ⟨_, _, D1, rfl, fun bb oo ee => ?_, ?_, hDH, ?_⟩
            · rw [upd_ne (ne_of_none ee hDH)]
              exact s4 _ _ (s3 _ _ (hs _ _ ee))
            · rw [upd_ne nr]
              exact s4 _ _ hr4
            · have hwn := wr_next (p := p) (a := x) (f := fi) (g := g)
              rw [upd_same, ← hwn, List.map_set]
      · intro σ' H' m
        obtain ⟨y4, y5, t, rfl, hs, hr3, ht, hw⟩ := m.out
        rw [hlen, List.take_of_length_le (by rw [List.length_reverse]; exact Nat.le_refl _), List.reverse_reverse, wr_val e1] at hw
        walk_at "rd"
        exact q H' t hs hw
def spCell : Sp := fun vs H Q _ => ∃ (g a : Addr) (p x : Int) (k : Nat) (pts fs : List Int) (i j : Nat), vs = [.ref g, .ref a, .int (i : Nat), .int (j : Nat)] ∧ GroundAt H g p k pts ∧ BatchAt H a p k fs ∧ pts[i]? = some x ∧ j < k ∧ ∀ H', Same H H' → Q (.int (valZ p fs x j)) H'
theorem ok__law_cell {f f1 : Addr} {fd fd1 : FuncData} (D : DefAt K mg "_law_cell" s__law_cell ["ground", "batch", "shelf", "j"] f fd) (T : Txt K mg) (G__law_written_out : Ok P w K mg base CX0 "_law_written_out" 1 ["p", "form", "point"] spWritten f1 fd1) : Ok P w K mg base CX0 "_law_cell" 2 ["ground", "batch", "shelf", "j"] spCell f fd := by
  refine D.mk' (D.F.ok sc__law_cell (fun vs H Q E h => ?_) (fun cdv A outer s H vs Q E hr h => ?_))
  · obtain ⟨g, a, p, x, k, pts, fs, i, j, rfl, _⟩ := h
    rfl
  · obtain ⟨g, a, p, x, k, pts, fs, i, j, rfl, ⟨b, hg, hb, pr, k1, k2, ig⟩, ⟨ha, hl, hv⟩, hx, hj, q⟩ := h
    have hm := ig.1 x (List.mem_of_getElem? hx)
    refine ⟨_, pss_cons (ps_set (i := 4) sc__law_cell.nd rfl (Or.inl rfl) (pe_call G__law_written_out.ok (hr.mono (by decide)) rfl G__law_written_out.g G__law_written_out.k G__law_written_out.b .nil pass0 (pa_cons (pe_ix ix_tup (pv 0) pe_int (fun _ _ => rfl)) (pa_cons (pv 1) (pa_cons (pe_ix ix_tup (pe_ix ix_tup (pv 0) pe_int (fun _ _ => rfl)) (pv 2) (fun _ _ => rfl)) pa_nil)))))
      (pss_one (ps_ret (pe_ifExp (pt_cmpR op_lt (pv 3) (pe_callB call_len_seq rfl T.b_len PySem.boot_len (pa_cons (pv 4) pa_nil)) (nomark _)) (pe_ix ix_list (pv 4) (pv 3) (fun _ _ => rfl)) pe_int))), ?_⟩
    walk_at "rd"
    refine ⟨b, _, _, V.int x, rfl, rfl, SqT.of hb, atI_nat (by rw [List.getElem?_map, hx]; rfl), ?_⟩
    walk_at "rd"
    have z1 := pr.1
    have z2 := pr.2.1
    refine ⟨p, x, a, fs, rfl, ⟨ha, rfl, hv⟩, pr.1, by omega, hm.1, hm.2, by omega, by omega, fun H1 t s1 h1 => ?_⟩
    walk_at "rd"
    refine ite2 (fun e => ?_) (fun e => ?_)
    · walk_at "rd"
      refine ⟨t, _, _, V.int (valZ p fs x j), rfl, rfl, SqL.of h1, atI_nat ?_, ?_⟩
      · rw [rowL, List.map_map, List.getElem?_map, List.getElem?_range (by omega)]
        rfl
      · exact q H1 s1
    · refine absurd ?_ e
      rw [rowL, List.length_map, List.length_map, List.length_range]
      exact decide_eq_true (by omega)
def spGround : Sp := fun vs H Q _ => ∃ (p l : Addr) (m n : Nat), vs = [.ref p, .int (m : Nat), .int (n : Nat)] ∧ PoolAt H p l ∧ 1 ≤ m ∧ m ≤ 12 ∧ 1 ≤ n ∧ n ≤ 8 ∧ ∀ (H' : Hp) (g : Addr) (z : Int) (k : Nat) (pts : List Int), But p l H H' → PoolAt H' p l → GroundAt H' g z k pts → k ≤ m → pts.length ≤ n → Q (.ref g) H'
theorem ok__law_ground {f f1 f2 f3 : Addr} {fd fd1 fd2 fd3 : FuncData} (D : DefAt K mg "_law_ground" s__law_ground ["pool", "most", "many"] f fd) (T : Txt K mg) (G__law_draw : Ok P w K mg base CX0 "_law_draw" 1 ["pool", "many"] spDraw f1 fd1) (G__law_pick : Ok P w K mg base CX0 "_law_pick" 2 ["pool", "things"] (spPick K) f2 fd2)
    (G__law_turned : Ok P w K mg base CX0 "_law_turned" 2 ["pool", "many"] spTurned f3 fd3) : Ok P w K mg base CX0 "_law_ground" 3 ["pool", "most", "many"] spGround f fd := by
  refine D.mk' (D.F.ok sc__law_ground (fun vs H Q E h => ?_) (fun cdv A outer s H vs Q E hr h => ?_))
  · obtain ⟨p, l, m, n, rfl, _⟩ := h
    rfl
  · obtain ⟨p, l, m, n, rfl, hP, m1, m2, n1, n2, q⟩ := h
    refine ⟨_, pss_cons (ps_set (i := 3) sc__law_ground.nd rfl (Or.inr rfl) (pe_call G__law_pick.ok (hr.mono (by decide)) rfl G__law_pick.g G__law_pick.k G__law_pick.b .nil pass0 (pa_cons (pv 0) (pa_cons (pe_lst (pa_cons pe_int (pa_cons pe_int (pa_cons pe_int (pa_cons pe_int (pa_cons pe_int (pa_cons pe_int (pa_cons pe_int (pa_cons pe_int (pa_cons pe_int (pa_cons pe_int (pa_cons pe_int (pa_cons pe_int pa_nil))))))))))))) pa_nil))))
      (pss_cons (ps_set (i := 4) sc__law_ground.nd rfl (Or.inl rfl) (pe_op op_add pe_int (pe_call G__law_draw.ok (hr.mono (by decide)) rfl G__law_draw.g G__law_draw.k G__law_draw.b .nil pass0 (pa_cons (pv 0) (pa_cons (pe_callB (call_min2 rfl) rfl T.b_min (by decide +kernel) (pa_cons (pv 2) (pa_cons (pe_op op_add (pv 3) pe_int) pa_nil))) pa_nil)))))
      (C8.pss_cut (ps_if (pt_cmpR op_lt (pv 3) pe_int (nomark _)) (pss_one (ps_set (i := 5) sc__law_ground.nd rfl (Or.inl rfl) (pe_slice sl_list (pe_call G__law_turned.ok (hr.mono (by decide)) rfl G__law_turned.g G__law_turned.k G__law_turned.b .nil pass0 (pa_cons (pv 0) (pa_cons (pe_op op_add (pv 3) pe_int) pa_nil))) po_none (po_some (pv 4))))) (pss_cons (ps_asg (pe_tup (pa_cons (pe_call G__law_draw.ok (hr.mono (by decide)) rfl G__law_draw.g G__law_draw.k G__law_draw.b .nil pass0 (pa_cons (pv 0) (pa_cons (pe_op op_add (pv 3) pe_int) pa_nil))) (pa_cons (pe_op op_add pe_int (pe_call G__law_draw.ok (hr.mono (by decide)) rfl G__law_draw.g G__law_draw.k G__law_draw.b .nil pass0 (pa_cons (pv 0) (pa_cons (pe_op op_fdivW (pe_op op_add (pv 3) pe_int) pe_int) pa_nil)))) pa_nil))) (pg_tup rfl (pgs_cons (pg_name (i := 6) sc__law_ground.nd rfl (Or.inr rfl)) (pgs_cons (pg_name (i := 7) sc__law_ground.nd rfl (Or.inr rfl)) pgs_nil))))
      (pss_cons (ps_setLc (i := 5) (own := [("at", 8)]) (g := gName 8) (tt := tYes) rfl sc__law_ground.nd rfl rfl (sw_true rfl rfl rfl (by decide +kernel)) (pi_range1 rfl T.b_range (pa_cons (pv 4) pa_nil)) (blkOk_by (N := N__law_ground) (sc := defScope s__law_ground) (by decide +kernel)) (fun _ _ _ _ _ => pg_name (i := 8) sc__law_ground.nd rfl (Or.inl rfl)) (fun _ _ _ _ _ => pts_nil) (fun _ _ _ _ _ => pe_op op_mod (pe_callTy call_int1 rfl T.b_int (by decide +kernel) (pa_cons (pe_op op_add (pv 6) (pe_op op_mulB (pv 8) (pv 7))) pa_nil)) (pe_op op_add (pv 3) pe_int)))
      (pss_one (ps_if (PW.pt (pw_and (pt_cmpR op_notIn_seq (pv 3) (pv 5) (by rfl)) (pw_and1 (pt_cmpR op_eq (pe_call G__law_draw.ok (hr.mono (by decide)) rfl G__law_draw.g G__law_draw.k G__law_draw.b .nil pass0 (pa_cons (pv 0) (pa_cons pe_int pa_nil))) pe_int (nomark _))))) (pss_one (ps_asg (pv 3) (pg_sub (pv 5) (pe_call G__law_draw.ok (hr.mono (by decide)) rfl G__law_draw.g G__law_draw.k G__law_draw.b .nil pass0 (pa_cons (pv 0) (pa_cons (pv 4) pa_nil))) set_list))) (pss_nil))))))
      (pss_one (ps_ret (pe_tup (pa_cons (pv 3) (pa_cons (pe_op op_add pe_int (pe_call G__law_draw.ok (hr.mono (by decide)) rfl G__law_draw.g G__law_draw.k G__law_draw.b .nil pass0 (pa_cons (pv 0) (pa_cons (pv 1) pa_nil)))) (pa_cons (pe_callTy call_tuple_of rfl T.b_tuple (by decide +kernel) (pa_cons (pv 5) pa_nil)) pa_nil)))))))), ?_⟩
    walk_at "rd"
    refine ⟨by show 12 ≤ sizeLine; decide, fun tt htt => ?_⟩
    walk_at "rd"
    refine ⟨p, l, tt, lawPrimes.map V.int, rfl, hP.same (same_new htt), (hP.ne htt).1, (hP.ne htt).2, SqL.of upd_same, by decide, by decide, fun zv H1 hzv hP1 hB1 => ?_⟩
    obtain ⟨z, hz, rfl⟩ := List.mem_map.mp hzv
    have pr := law_prime hz
    have z1 := pr.1
    have z2 := pr.2.1
    walk_at "rd"
    refine ⟨p, l, _, rfl, hP1, ?_, ?_, fun c H2 c0 c1 hP2 hB2 => ?_⟩
    · split <;> omega
    · split <;> omega
    · have c2 : c < z + 1 ∧ c < (n : Int) := by
        split at c1 <;> omega
      have hB3 := (Same.but (same_new htt)).trans (hB1.trans hB2)
      walk_at "rd"
      refine ⟨fun σ' H3 => Mid (∃ (t : Addr) (pts : List Int) (y6 y7 y8 : Option V), σ' = [some (.ref p), some (.int (m : Nat)), some (.int (n : Nat)), some (.int z), some (.int (1 + c)), some (.ref t), y6, y7, y8] ∧ PoolAt H3 p l ∧ But p l H H3 ∧ t ≠ p ∧ t ≠ l ∧ H3 t = some (.lst (pts.map V.int)) ∧ pts.Nodup ∧ (∀ x ∈ pts, 0 ≤ x ∧ x ≤ z) ∧ ((pts.length : Nat) : Int) = 1 + c), ?_, ?_⟩
      · walk_at "rd"
        refine ite2 (fun e => ?_) (fun e => ?_)
        · have e3 : z < 16 := of_decide_eq_true e
          walk_at "rd"
          refine ⟨p, l, (z + 1).toNat, by rw [show (((z + 1).toNat : Nat) : Int) = z + 1 by omega]; rfl, hP2, by omega, by omega, fun H3 t ns hB4 hP3 ft h3 nd hr3 hl3 => ?_⟩
          walk_at "rd"
          refine ⟨t, _, rfl, SqL.of h3, fun s2 hs2 => ?_⟩
          walk_at "rd"
          have hsH := (hB3.trans hB4).free hP3 hs2
          refine .mk ⟨s2, ns.take (1 + c).toNat, _, _, _, rfl, hP3.upd (hP3.ne hs2).1 (hP3.ne hs2).2, (hB3.trans hB4).new hsH, (hP3.ne hs2).1, (hP3.ne hs2).2, ?_, nd.sublist (List.take_sublist _ _), fun x hx => ?_, ?_⟩
          · rw [upd_same, cut_take _ (by omega), List.map_take]
          · have := hr3 x (List.mem_of_mem_take hx)
            omega
          · rw [List.length_take]
            omega
        · have e3 : ¬ z < 16 := fun q => e (decide_eq_true q)
          walk_at "rd"
          refine ⟨p, l, z + 1, rfl, hP2, by omega, by omega, fun b0 H3 b1 b2 hP3 hB4 => ?_⟩
          walk_at "rd"
          refine ⟨p, l, (z + 1) / 8, rfl, hP3, by omega, by omega, fun d H4 d1 d2 hP4 hB5 => ?_⟩
          walk_at "rd"
          refine ⟨by show 2 ≤ sizeLine; decide, fun u hu => ?_⟩
          walk_at "rd"
          refine ⟨u, _, rfl, SqT.of upd_same, rfl, ?_⟩
          walk_at "rd"
          have hB6 := (hB3.trans hB4).trans hB5
          have hP6 := hP4.same (same_new (o := .tup [V.int b0, V.int (1 + d)]) hu)
          refine ⟨by omega, by omega, fun D1 hD => lc_same (n := (1 + c).toNat) (fun i => V.int ((b0 + ((i : Nat) : Int) * (1 + d)) % (z + 1))) (by omega) hD (fun v => rfl) (fun j H5 Q5 hj s5 q5 => ?_) (fun H5 s5 hD5 => ?_)⟩
          · walk_at "rd"
            rw [Int.zero_add]
            exact q5 H5 (.refl H5)
          · have hB7 := hB6.trans (Same.but ((same_new (o := .tup [V.int b0, V.int (1 + d)]) hu).trans s5))
            have hP7 := hP6.same s5
            obtain ⟨np, nl⟩ := hP6.ne hD
            have hD6 : H5 D1 = some (.lst ((gaps z b0 (1 + d) (1 + c).toNat).map V.int)) := by
              rw [gaps, List.map_map]
              exact hD5
            have g1 : (gaps z b0 (1 + d) (1 + c).toNat).Nodup := gaps_nodup (by omega) (by omega) (by omega) (by omega)
            have g2 : ∀ x ∈ gaps z b0 (1 + d) (1 + c).toNat, 0 ≤ x ∧ x ≤ z := fun x hx => gaps_mem (by omega) hx
            have g3 : (gaps z b0 (1 + d) (1 + c).toNat).length = (1 + c).toNat := by rw [gaps, List.length_map, List.length_range]
            generalize gaps z b0 (1 + d) (1 + c).toNat = pts at hD6 g1 g2 g3
            walk_at "rd"
            refine ⟨flat_ints pts, ?_⟩
            rw [inV_ints]
            walk_at "rd"
            refine ite2 (fun e => ?_) (fun e => ?_)
            · have nz : z ∉ pts := by simpa using e
              walk_at "rd"
              refine ⟨p, l, 2, rfl, hP7, by decide, by decide, fun v H7 v0 v1 hP8 hB8 => ?_⟩
              have hD7 := hB8 _ _ np nl hD6
              walk_at "rd"
              refine ite2 (fun e => ?_) (fun e => ?_)
              · walk_at "rd"
                refine ⟨p, l, 1 + c, rfl, hP8, by omega, by omega, fun v H8 v0 v1 hP9 hB9 => ?_⟩
                have hD8 := hB9 _ _ np nl hD7
                walk_at "rd"
                refine ⟨D1, _, v, v.toNat, rfl, rfl, hD8, ?_, ?_⟩
                · unfold ixN
                  rw [if_pos v0, if_pos (by rw [List.length_map]; omega)]
                · refine .mk ⟨D1, pts.set v.toNat z, _, _, _, rfl, hP9.upd np nl, ((hB7.trans hB8).trans hB9).new ?_, np, nl, by rw [upd_same, List.map_set], set_nodup g1 nz, fun x hx => ?_, by rw [List.length_set]; omega⟩
                  · exact hB6.free hP4 (by
                      by_cases q : D1 = u
                      · rw [q]; exact hu
                      · rw [upd_ne q] at hD; exact hD)
                  · rcases List.mem_or_eq_of_mem_set hx with q | q
                    · exact g2 x q
                    · omega
              · walk_at "rd"
                exact .mk ⟨D1, pts, _, _, _, rfl, hP8, hB7.trans hB8, np, nl, hD7, g1, g2, by omega⟩
            · walk_at "rd"
              exact .mk ⟨D1, pts, _, _, _, rfl, hP7, hB7, np, nl, hD6, g1, g2, by omega⟩
      · intro σ' H3 mm
        obtain ⟨t, pts, y6, y7, y8, rfl, hP3, hB4, tp, tl, ht, hnd, hin, hln⟩ := mm.out
        walk_at "rd"
        refine ⟨p, l, (m : Nat), rfl, hP3, by omega, by omega, fun k0 H5 k1 k2 hP5 hB5 => ?_⟩
        have ht5 := hB5 _ _ tp tl ht
        walk_at "rd"
        refine ⟨t, _, rfl, .inl ⟨SqL.of ht5, fun b hb => ?_⟩⟩
        walk_at "rd"
        refine ⟨by show 3 ≤ sizeLine; decide, fun g hg => ?_⟩
        have hB6 := hB4.trans hB5
        have ngb : b ≠ g := fun zz => by rw [← zz, upd_same] at hg; cases hg
        have hg5 : H5 g = none := by rw [upd_ne ngb.symm] at hg; exact hg
        have hbH := hB6.free hP5 hb
        have hgH := hB6.free hP5 hg5
        have ek : (1 : Int) + k0 = (((1 + k0).toNat : Nat) : Int) := by omega
        refine q _ g z (1 + k0).toNat pts ((hB6.new hbH).new hgH) ((hP5.upd (hP5.ne hb).1 (hP5.ne hb).2).upd (hP5.ne hg5).1 (hP5.ne hg5).2) ⟨b, ?_, ?_, pr, by omega, by omega, hin, hnd, by omega, by omega⟩ (by omega) (by omega)
        · rw [upd_same, ← ek]
        · rw [upd_ne ngb, upd_same]
end

section
variable {P : Program} {w : World} {K : PySem.W.Frag} {mg : Str → Option Value} {base : Heap} {TZ : Tabz}
def spCellP (TZ : Tabz) : Sp := fun vs H Q _ => ∃ (g a : Addr) (p : Int) (k : Nat) (pts fs : List Int) (i j : Nat) (x : Int), vs = [.ref g, .ref a, .int (i : Nat), .int (j : Nat)] ∧ GroundAt H g p k pts ∧ BatchAt H a p k fs ∧ pts[i]? = some x ∧ j ≤ 1023 ∧ LamX.Tabs TZ H ∧
  ∀ H', LamX.ExtN H H' → LamX.Tabs TZ H' → Q (.int (valZ p fs x j)) H'
theorem ok_cell {f f1 f2 f3 f4 : Addr} {fd fd1 fd2 fd3 fd4 : FuncData} (D : DefAt K mg "cell" s_cell ["ground", "batch", "shelf", "j"] f fd) (T : Txt K mg) (G_made_batch : Ok P w K mg base CX0 "made_batch" 9 ["ground", "thing"] (spMadeBatch TZ) f1 fd1) (G_point_of : Ok P w K mg base CX0 "point_of" 3 ["ground", "shelf"] spPointOf f2 fd2)
    (G_number_between : Ok P w K mg base CX0 "number_between" 2 ["thing", "least", "most"] (spBetween K) f3 fd3) (G_value : Ok P w K mg base CX0 "value" 3 ["p", "form", "point", "j"] spValue f4 fd4) : Ok P w K mg base CX0 "cell" 10 ["ground", "batch", "shelf", "j"] (spCellP TZ) f fd := by
  refine D.mk' (D.F.ok sc_cell (fun vs H Q E h => ?_) (fun cdv A outer s H vs Q E hr h => ?_))
  · obtain ⟨g, a, p, k, pts, fs, i, j, x, rfl, _⟩ := h
    rfl
  · obtain ⟨g, a, p, k, pts, fs, i, j, x, rfl, hg, ha, hx, hj, tb, q⟩ := h
    obtain ⟨_, h_MOST_CELLS⟩ := T.c_MOST_CELLS
    refine ⟨_, pss_cons (ps_expr (pe_call G_made_batch.ok (hr.mono (by decide)) rfl G_made_batch.g G_made_batch.k G_made_batch.b .nil pass0 (pa_cons (pv 0) (pa_cons (pv 1) pa_nil))))
      (pss_cons (ps_set (i := 4) sc_cell.nd rfl (Or.inl rfl) (pe_call G_point_of.ok (hr.mono (by decide)) rfl G_point_of.g G_point_of.k G_point_of.b .nil pass0 (pa_cons (pv 0) (pa_cons (pv 2) pa_nil))))
      (pss_cons (ps_if (pt_not (pt_val (pe_call G_number_between.ok (hr.mono (by decide)) rfl G_number_between.g G_number_between.k G_number_between.b .nil pass0 (pa_cons (pv 3) (pa_cons pe_int (pa_cons (pe_op op_sub (pe_glob (v := .int 1024) rfl h_MOST_CELLS ⟨_, rfl⟩) pe_int) pa_nil)))))) (pss_one (ps_dead)) (pss_nil))
      (pss_one (ps_ret (pe_call G_value.ok (hr.mono (by decide)) rfl G_value.g G_value.k G_value.b .nil pass0 (pa_cons (pe_ix ix_tup (pv 0) pe_int (fun _ _ => rfl)) (pa_cons (pv 1) (pa_cons (pv 4) (pa_cons (pv 3) pa_nil))))))))), ?_⟩
    walk_at "rd"
    refine ⟨g, a, p, k, pts, fs, rfl, hg, ha, tb, fun H1 e1 t1 => ?_⟩
    walk_at "rd"
    refine ⟨g, p, k, pts, i, x, rfl, hg.ext e1, hx, ?_⟩
    walk_at "rd"
    refine ⟨_, _, _, rfl, kn_int _, ?_⟩
    have e2 : betV 0 (1024 - 1) (.int (j : Nat)) = true := by
      show (decide ((0 : Int) ≤ (j : Nat)) && decide (((j : Nat) : Int) ≤ 1024 - 1)) = true
      rw [decide_eq_true (by omega), decide_eq_true (by omega)] <;> rfl
    rw [e2]
    obtain ⟨b, hg1, hb1, pr, k1, k2, ig⟩ := hg.ext e1
    have ha1 := ha.ext e1
    walk_at "rd"
    refine ⟨p, x, a, fs, j, rfl, ha1.1, pr.1, by have := pr.2.1; omega, by rw [ha1.2.1]; exact k1, by rw [ha1.2.1]; omega, by omega, fun H4 s4 => q H4 (e1.trans (.of s4)) (t1.ext s4)⟩
def spMoved : Sp := fun vs H Q _ => ∃ (g a : Addr) (p s : Int) (k : Nat) (pts fs : List Int), vs = [.ref g, .ref a, .int s] ∧ GroundAt H g p k pts ∧ BatchAt H a p k fs ∧ 0 ≤ s ∧ s < p ∧ ∀ H' r, Same H H' → BatchAt H' r p k (wr p s fs) → Q (.ref r) H'
theorem ok__law_moved {f f1 : Addr} {fd fd1 : FuncData} (D : DefAt K mg "_law_moved" s__law_moved ["ground", "batch", "shift"] f fd) (T : Txt K mg) (G__law_written_out : Ok P w K mg base CX0 "_law_written_out" 1 ["p", "form", "point"] spWritten f1 fd1) : Ok P w K mg base CX0 "_law_moved" 2 ["ground", "batch", "shift"] spMoved f fd := by
  refine D.mk' (D.F.ok sc__law_moved (fun vs H Q E h => ?_) (fun cdv A outer s H vs Q E hr h => ?_))
  · obtain ⟨g, a, p, s, k, pts, fs, rfl, _⟩ := h
    rfl
  · obtain ⟨g, a, p, s0, k, pts, fs, rfl, ⟨b, hg, hb, pr, k1, k2, ig⟩, ⟨ha, hl, hv⟩, s1, s2, q⟩ := h
    refine ⟨_, pss_one (ps_ret (pe_callTy call_tuple_of rfl T.b_tuple (by decide +kernel) (pa_cons (pe_call G__law_written_out.ok (hr.mono (by decide)) rfl G__law_written_out.g G__law_written_out.k G__law_written_out.b .nil pass0 (pa_cons (pe_ix ix_tup (pv 0) pe_int (fun _ _ => rfl)) (pa_cons (pv 1) (pa_cons (pv 2) pa_nil)))) pa_nil))), ?_⟩
    walk_at "rd"
    have z1 := pr.1
    have z2 := pr.2.1
    refine ⟨p, s0, a, fs, rfl, ⟨ha, rfl, hv⟩, pr.1, by omega, s1, by omega, by omega, by omega, fun H1 t sm h1 => ?_⟩
    walk_at "rd"
    refine ⟨t, _, rfl, .inl ⟨SqL.of h1, fun r hr2 => ?_⟩⟩
    have ew : rowL p fs s0 fs.length = wr p s0 fs := (wr_val (by omega)).symm
    rw [ew]
    refine q _ r (sm.trans (same_new hr2)) ⟨upd_same, by rw [wr_len]; exact hl, fun x hx => ?_⟩
    obtain ⟨j, _, rfl⟩ := List.mem_map.mp hx
    exact ⟨Int.emod_nonneg _ (by omega), Int.emod_lt_of_pos _ (by omega)⟩
end

section
variable {P : Program} {w : World} {K : PySem.W.Frag} {mg : Str → Option Value} {base : Heap} {TZ : Tabz}
def GrB (H : Hp) (g b : Addr) (p : Int) (k : Nat) (pts : List Int) : Prop := H g = some (.tup [.int p, .int (k : Nat), .ref b]) ∧ H b = some (.tup (pts.map V.int)) ∧ PrimeV (.int p) ∧ 1 ≤ k ∧ k ≤ 12 ∧ InGround p pts
theorem GrB.to {H : Hp} {g b : Addr} {p : Int} {k : Nat} {pts : List Int} (h : GrB H g b p k pts) : GroundAt H g p k pts := ⟨b, h⟩
theorem GrB.ext {H H' : Hp} {g b : Addr} {p : Int} {k : Nat} {pts : List Int} (h : GrB H g b p k pts) (e : LamX.ExtN H H') : GrB H' g b p k pts := ⟨e _ _ h.1 (fun _ z => by cases z), e _ _ h.2.1 (fun _ z => by cases z), h.2.2⟩
theorem GrB.but {H H' : Hp} {p l g c : Addr} {z : Int} {k : Nat} {pts : List Int} (h : GrB H g c z k pts) (hP : PoolAt H p l) (b : But p l H H') : GrB H' g c z k pts := by
  obtain ⟨a1, a2⟩ := hP.tup_ne h.1
  obtain ⟨a3, a4⟩ := hP.tup_ne h.2.1
  exact ⟨b _ _ a1 a2 h.1, b _ _ a3 a4 h.2.1, h.2.2⟩
theorem GroundAt.but {H H' : Hp} {p l g : Addr} {z : Int} {k : Nat} {pts : List Int} (h : GroundAt H g z k pts) (hP : PoolAt H p l) (b : But p l H H') : GroundAt H' g z k pts := by
  obtain ⟨c, h1, h2, r⟩ := h
  obtain ⟨a1, a2⟩ := hP.tup_ne h1
  obtain ⟨a3, a4⟩ := hP.tup_ne h2
  exact ⟨c, b _ _ a1 a2 h1, b _ _ a3 a4 h2, r⟩
theorem BatchAt.but {H H' : Hp} {p l g : Addr} {z : Int} {k : Nat} {pts : List Int} (h : BatchAt H g z k pts) (hP : PoolAt H p l) (b : But p l H H') : BatchAt H' g z k pts := by
  obtain ⟨a1, a2⟩ := hP.tup_ne h.1
  exact ⟨b _ _ a1 a2 h.1, h.2⟩
theorem row_get {p x : Int} {fs : List Int} {n j : Nat} (h : j < n) : ((rowL p fs x n).map V.int)[j]? = some (V.int (valZ p fs x j)) := by
  unfold rowL
  rw [List.getElem?_map, List.getElem?_map, List.getElem?_range h]
  rfl
theorem ok_law {f f1 f2 f3 f4 f5 f6 f7 : Addr} {fd fd1 fd2 fd3 fd4 fd5 fd6 fd7 : FuncData} (D : DefAt K mg "law" s_law ["script"] f fd) (T : Txt K mg) (G__law_pool : Ok P w K mg base CX0 "_law_pool" 1 ["script"] (spPool K) f1 fd1) (G__law_draw : Ok P w K mg base CX0 "_law_draw" 1 ["pool", "many"] spDraw f2 fd2)
    (G__law_ground : Ok P w K mg base CX0 "_law_ground" 3 ["pool", "most", "many"] spGround f3 fd3) (G__law_batch : Ok P w K mg base CX0 "_law_batch" 2 ["pool", "ground"] spBatch f4 fd4) (G__law_moved : Ok P w K mg base CX0 "_law_moved" 2 ["ground", "batch", "shift"] spMoved f5 fd5)
    (G_row : Ok P w K mg base CX0 "row" 10 ["ground", "batch", "shelf", "many"] (spRow TZ) f6 fd6) (G_cell : Ok P w K mg base CX0 "cell" 10 ["ground", "batch", "shelf", "j"] (spCellP TZ) f7 fd7) : Ok P w K mg base CX0 "law" 11 ["script"] (spLawT K TZ) f fd := by
  refine D.mk' (D.F.ok sc_law (fun vs H Q E h => ?_) (fun cdv A outer s H vs Q E hr h => ?_))
  · obtain ⟨a, ns, rfl, _⟩ := h
    rfl
  · obtain ⟨a, ns, rfl, hS, h63, tb, q⟩ := h
    refine ⟨_, pss_cons (ps_set (i := 1) sc_law.nd rfl (Or.inl rfl) (pe_call G__law_pool.ok (hr.mono (by decide)) rfl G__law_pool.g G__law_pool.k G__law_pool.b .nil pass0 (pa_cons (pv 0) pa_nil)))
      (pss_cons (ps_set (i := 2) sc_law.nd rfl (Or.inr rfl) (pe_call G__law_ground.ok (hr.mono (by decide)) rfl G__law_ground.g G__law_ground.k G__law_ground.b .nil pass0 (pa_cons (pv 1) (pa_cons pe_int (pa_cons pe_int pa_nil)))))
      (pss_cons (ps_asg (pv 2) (pg_tup rfl (pgs_cons (pg_name (i := 3) sc_law.nd rfl (Or.inl rfl)) (pgs_cons (pg_name (i := 4) sc_law.nd rfl (Or.inr rfl)) (pgs_cons (pg_name (i := 5) sc_law.nd rfl (Or.inl rfl)) pgs_nil)))))
      (pss_cons (ps_asg (pe_tup (pa_cons (pe_call G__law_batch.ok (hr.mono (by decide)) rfl G__law_batch.g G__law_batch.k G__law_batch.b .nil pass0 (pa_cons (pv 1) (pa_cons (pv 2) pa_nil))) (pa_cons (pe_call G__law_draw.ok (hr.mono (by decide)) rfl G__law_draw.g G__law_draw.k G__law_draw.b .nil pass0 (pa_cons (pv 1) (pa_cons (pv 3) pa_nil))) pa_nil))) (pg_tup rfl (pgs_cons (pg_name (i := 6) sc_law.nd rfl (Or.inr rfl)) (pgs_cons (pg_name (i := 7) sc_law.nd rfl (Or.inl rfl)) pgs_nil))))
      (pss_cons (ps_set (i := 8) sc_law.nd rfl (Or.inl rfl) (pe_call G__law_moved.ok (hr.mono (by decide)) rfl G__law_moved.g G__law_moved.k G__law_moved.b .nil pass0 (pa_cons (pv 2) (pa_cons (pv 6) (pa_cons (pv 7) pa_nil)))))
      (pss_cons (ps_set (i := 9) sc_law.nd rfl (Or.inl rfl) (pe_tup (pa_cons (pv 3) (pa_cons (pv 4) (pa_cons (pe_tup (pa_cons pe_int (pa_cons (pv 3) pa_nil))) pa_nil)))))
      (pss_cons (ps_if (PW.pt (pw_or (pt_cmpR (op_neD hr.units) (pe_call G_row.ok (hr.mono (by decide)) rfl G_row.g G_row.k G_row.b .nil pass0 (pa_cons (pv 9) (pa_cons (pv 6) (pa_cons pe_int (pa_cons (pv 4) pa_nil))))) (pv 6) (nomark _)) (pw_or1 (pt_cmpR (op_neD hr.units) (pe_call G_row.ok (hr.mono (by decide)) rfl G_row.g G_row.k G_row.b .nil pass0 (pa_cons (pv 9) (pa_cons (pv 6) (pa_cons pe_int (pa_cons (pv 4) pa_nil))))) (pe_revT (pv 6)) (nomark _))))) (pss_one (ps_ret pe_bl)) (pss_nil))
      (pss_cons (ps_if (PW.pt (pw_or (pt_cmpR (op_neD hr.units) (pe_call G_row.ok (hr.mono (by decide)) rfl G_row.g G_row.k G_row.b .nil pass0 (pa_cons (pv 9) (pa_cons (pe_revT (pv 6)) (pa_cons pe_int (pa_cons (pv 4) pa_nil))))) (pe_call G_row.ok (hr.mono (by decide)) rfl G_row.g G_row.k G_row.b .nil pass0 (pa_cons (pv 9) (pa_cons (pv 6) (pa_cons pe_int (pa_cons (pv 4) pa_nil))))) (nomark _)) (pw_or1 (pt_cmpR (op_neD hr.units) (pe_call G_row.ok (hr.mono (by decide)) rfl G_row.g G_row.k G_row.b .nil pass0 (pa_cons (pv 9) (pa_cons (pe_revT (pv 6)) (pa_cons pe_int (pa_cons (pv 4) pa_nil))))) (pe_call G_row.ok (hr.mono (by decide)) rfl G_row.g G_row.k G_row.b .nil pass0 (pa_cons (pv 9) (pa_cons (pv 6) (pa_cons pe_int (pa_cons (pv 4) pa_nil))))) (nomark _))))) (pss_one (ps_ret pe_bl)) (pss_nil))
      (pss_cons (ps_for PassesOwn.never rfl (pi_enumT rfl T.b_enumerate (pa_cons (pv 5) pa_nil)) (pg_tup rfl (pgs_cons (pg_name (i := 10) sc_law.nd rfl (Or.inr rfl)) (pgs_cons (pg_name (i := 11) sc_law.nd rfl (Or.inl rfl)) pgs_nil))) (C8.pss_cut (ps_if (pt_cmpR op_eq (pv 11) (pv 3) (nomark _)) (pss_one (ps_if (pt_cmpR (op_neD hr.units) (pe_call G_row.ok (hr.mono (by decide)) rfl G_row.g G_row.k G_row.b .nil pass0 (pa_cons (pv 2) (pa_cons (pv 8) (pa_cons (pv 10) (pa_cons (pv 4) pa_nil))))) (pe_revT (pv 8)) (nomark _)) (pss_one (ps_ret pe_bl)) (pss_nil))) (pss_cons (ps_set (i := 12) sc_law.nd rfl (Or.inl rfl) (pe_op op_mod (pe_callTy call_int1 rfl T.b_int (by decide +kernel) (pa_cons (pe_op op_add (pv 11) (pv 7)) pa_nil)) (pv 3)))
      (pss_cons (ps_if (pt_cmpR (op_neD hr.units) (pe_call G_row.ok (hr.mono (by decide)) rfl G_row.g G_row.k G_row.b .nil pass0 (pa_cons (pv 2) (pa_cons (pv 8) (pa_cons (pv 10) (pa_cons (pv 4) pa_nil))))) (pe_call G_row.ok (hr.mono (by decide)) rfl G_row.g G_row.k G_row.b .nil pass0 (pa_cons (pe_tup (pa_cons (pv 3) (pa_cons (pv 4) (pa_cons (pe_tup (pa_cons (pv 12) pa_nil)) pa_nil)))) (pa_cons (pv 6) (pa_cons pe_int (pa_cons (pv 4) pa_nil))))) (nomark _)) (pss_one (ps_ret pe_bl)) (pss_nil))
      (pss_one (ps_if (pt_cmpR (op_neD hr.units) (pe_call G_row.ok (hr.mono (by decide)) rfl G_row.g G_row.k G_row.b .nil pass0 (pa_cons (pv 2) (pa_cons (pv 6) (pa_cons (pv 10) (pa_cons (pv 4) pa_nil))))) (pe_call G_row.ok (hr.mono (by decide)) rfl G_row.g G_row.k G_row.b .nil pass0 (pa_cons (pv 9) (pa_cons (pe_call G__law_moved.ok (hr.mono (by decide)) rfl G__law_moved.g G__law_moved.k G__law_moved.b .nil pass0 (pa_cons (pv 2) (pa_cons (pv 6) (pa_cons (pv 11) pa_nil)))) (pa_cons pe_int (pa_cons (pv 4) pa_nil))))) (nomark _)) (pss_one (ps_ret pe_bl)) (pss_nil))))))
      (pss_one (ps_if (pt_cmpR (op_neD hr.units) (pe_lc (own := [("j", 13)]) (g := gName 13) rfl sc_law.nd (pi_range1 rfl T.b_range (pa_cons (pe_op op_add (pv 4) pe_int) pa_nil)) (blkOk_by (N := N_law) (sc := defScope s_law) (by decide +kernel)) (fun _ _ _ _ _ => pg_name (i := 13) sc_law.nd rfl (Or.inl rfl)) (fun _ _ _ _ _ => pts_one (pt_cmpR op_ne (pe_call G_cell.ok (hr.mono (by decide)) rfl G_cell.g G_cell.k G_cell.b .nil pass0 (pa_cons (pv 2) (pa_cons (pv 6) (pa_cons (pv 10) (pa_cons (pv 13) pa_nil))))) (pe_ix (ix_tupK K) (pe_call G_row.ok (hr.mono (by decide)) rfl G_row.g G_row.k G_row.b .nil pass0 (pa_cons (pv 2) (pa_cons (pv 6) (pa_cons (pv 10) (pa_cons (pe_op op_add (pv 4) pe_int) pa_nil))))) (pv 13) (fun _ _ => rfl)) (nomark _))) (fun _ _ _ _ _ => pv 13)) (pe_lst pa_nil) (nomark _)) (pss_one (ps_ret pe_bl)) (pss_nil)))))
      (pss_one (ps_ret pe_bl)))))))))), ?_⟩
    walk_at "rd"
    refine ⟨a, ns, rfl, hS, h63, fun H1 p l s1 _ _ hP1 => ?_⟩
    have tb1 := tb.ext s1
    walk_at "rd"
    refine ⟨p, l, 12, 8, rfl, hP1, by decide, by decide, by decide, by decide, fun H2 g z k pts hB2 hP2 hg1 _ _ => ?_⟩
    have tb2 := Tabs.but tb1 hP1 hB2
    walk_at "rd"
    obtain ⟨b, hgg, hbb, pr, k1, k2, ig⟩ := id hg1
    have hg2 : GrB H2 g b z k pts := ⟨hgg, hbb, pr, k1, k2, ig⟩
    have z1 := pr.1
    have z2 := pr.2.1
    refine ⟨g, _, rfl, SqT.of hgg, rfl, ?_⟩
    walk_at "rd"
    refine ⟨p, l, g, z, k, pts, rfl, hP2, (hP2.tup_ne hgg).1, (hP2.tup_ne hgg).2, hg2.to, fun H3 o1 fs hB3 hP3 _ ho3 => ?_⟩
    have tb3 := Tabs.but tb2 hP2 hB3
    have hg3 := hg2.but hP2 hB3
    walk_at "rd"
    refine ⟨p, l, z, rfl, hP3, by omega, by omega, fun wt H4 w1 w2 hP4 hB4 => ?_⟩
    have tb4 := Tabs.but tb3 hP3 hB4
    have hg4 := hg3.but hP3 hB4
    have ho4 := ho3.but hP3 hB4
    walk_at "rd"
    refine ⟨by show 2 ≤ sizeLine; decide, fun u hu => ?_⟩
    walk_at "rd"
    refine ⟨u, _, rfl, SqT.of upd_same, rfl, ?_⟩
    have s5 := same_new (o := .tup [V.ref o1, V.int wt]) hu
    have tb5 := tb4.ext s5
    have hg5 := hg4.ext (.of s5)
    have ho5 := ho4.ext (.of s5)
    generalize upd H4 u (.tup [V.ref o1, V.int wt]) = H5 at tb5 hg5 ho5
    walk_at "rd"
    refine ⟨g, o1, z, wt, k, pts, fs, rfl, hg5.to, ho5, w1, w2, fun H6 om s6 hm6 => ?_⟩
    have tb6 := tb5.ext s6
    have hg6 := hg5.ext (.of s6)
    have ho6 := ho5.ext (.of s6)
    walk_at "rd"
    refine ⟨by show 2 ≤ sizeLine; decide, fun u1 hu1 => ?_⟩
    walk_at "rd"
    refine ⟨by show 3 ≤ sizeLine; decide, fun gb hgb => ?_⟩
    have s7 := (same_new (o := .tup [V.int 0, V.int z]) hu1).trans (same_new (o := .tup [V.int z, V.int (k : Nat), V.ref u1]) hgb)
    have tb7 := tb6.ext s7
    have hg7 := hg6.ext (.of s7)
    have ho7 := ho6.ext (.of s7)
    have hm7 := hm6.ext (.of s7)
    have hG7 : GroundAt (upd (upd H6 u1 (.tup [V.int 0, V.int z])) gb (.tup [V.int z, V.int (k : Nat), V.ref u1])) gb z k [0, z] := by
      refine ⟨u1, upd_same, ?_, pr, k1, k2, fun x hx => ?_, ?_, by simp, by simp⟩
      · exact (same_new hgb) _ _ upd_same
      · simp at hx
        omega
      · simp
        omega
    generalize upd (upd H6 u1 (.tup [V.int 0, V.int z])) gb (.tup [V.int z, V.int (k : Nat), V.ref u1]) = H7 at tb7 hg7 ho7 hm7 hG7
    have hfl : fs.length = k := ho7.2.1
    have hv := ho7.2.2
    have R0 : rowL z fs 0 k = fs := by
      rw [← hfl]
      exact row_at0 (by omega) hv
    have R1 : rowL z fs z k = fs.reverse := by
      rw [rev_val hv, ← hfl]
      rfl
    have hvr : ∀ x ∈ fs.reverse, 0 ≤ x ∧ x < z := fun x hx => hv x (List.mem_reverse.mp hx)
    have R2 : rowL z fs.reverse 0 k = fs.reverse := by
      have e := row_at0 (p := z) (by omega) hvr
      rw [List.length_reverse, hfl] at e
      exact e
    have R3 : rowL z fs.reverse z k = fs := by
      have e := rev_val hvr
      rw [List.reverse_reverse, List.length_reverse, hfl] at e
      exact e.symm
    walk_at "rd"
    refine ⟨gb, o1, z, k, [0, z], fs, 0, k, 0, rfl, hG7, ho7, rfl, by omega, tb7, fun H8 r1 e8 t8 hr1 => ?_⟩
    rw [R0] at hr1
    have ho8 := ho7.ext e8
    have ho8t := ho8.1
    walk_at "rd"
    refine ⟨_, _, .tup (SqT.of hr1) (dp_ints _), .tup (SqT.of ho8t) (dp_ints _), shaped_intsT _, shaped_intsT _, ?_⟩
    rw [neq_ints]
    walk_at "rd"
    try refine ite2 (fun w => absurd w Bool.false_ne_true) (fun _ => ?_)
    walk_at "rd"
    refine ⟨gb, o1, z, k, [0, z], fs, 1, k, z, rfl, hG7.ext e8, ho8, rfl, by omega, t8, fun H9 r2 e9 t9 hr2 => ?_⟩
    rw [R1] at hr2
    have f9 := e8.trans e9
    have ho9 := ho7.ext f9
    walk_at "rd"
    refine ⟨o1, _, rfl, SqT.of ho9.1, fun rb hrb => ?_⟩
    have s10 := same_new (o := .tup (fs.map V.int).reverse) hrb
    have f10 := f9.trans (.of s10)
    have t10 := t9.ext s10
    have hr2' := s10 _ _ hr2
    have hrb' : upd H9 rb (.tup (fs.map V.int).reverse) rb = some (.tup (fs.reverse.map V.int)) := by rw [upd_same, List.map_reverse]
    generalize upd H9 rb (.tup (fs.map V.int).reverse) = H10 at f10 t10 hr2' hrb'
    walk_at "rd"
    refine ⟨_, _, .tup (SqT.of hr2') (dp_ints _), .tup (SqT.of hrb') (dp_ints _), shaped_intsT _, shaped_intsT _, ?_⟩
    rw [neq_ints]
    walk_at "rd"
    try refine ite2 (fun w => absurd w Bool.false_ne_true) (fun _ => ?_)
    walk_at "rd"
    have o11 := ho7.ext f10
    refine ⟨o1, _, rfl, SqT.of o11.1, fun rb11 hrb11 => ?_⟩
    have s11 := same_new (o := .tup (fs.map V.int).reverse) hrb11
    have f11 := f10.trans (.of s11)
    have t11 := t10.ext s11
    have hb11 : BatchAt (upd H10 rb11 (.tup (fs.map V.int).reverse)) rb11 z k fs.reverse := ⟨by rw [upd_same, List.map_reverse], by rw [List.length_reverse]; exact hfl, hvr⟩
    generalize upd H10 rb11 (.tup (fs.map V.int).reverse) = H11 at f11 t11 hb11
    walk_at "rd"
    refine ⟨gb, rb11, z, k, [0, z], fs.reverse, 0, k, 0, rfl, hG7.ext f11, hb11, rfl, by omega, t11, fun H12 r12 e12 t12 hr12 => ?_⟩
    rw [R2] at hr12
    have f12 := f11.trans e12
    walk_at "rd"
    refine ⟨gb, o1, z, k, [0, z], fs, 1, k, z, rfl, hG7.ext f12, ho7.ext f12, rfl, by omega, t12, fun H13 r13 e13 t13 hr13 => ?_⟩
    rw [R1] at hr13
    have f13 := f12.trans e13
    have hr12' := e13 _ _ hr12 (fun _ w => by cases w)
    walk_at "rd"
    refine ⟨_, _, .tup (SqT.of hr12') (dp_ints _), .tup (SqT.of hr13) (dp_ints _), shaped_intsT _, shaped_intsT _, ?_⟩
    rw [neq_ints]
    walk_at "rd"
    try refine ite2 (fun w => absurd w Bool.false_ne_true) (fun _ => ?_)
    walk_at "rd"
    have o14 := ho7.ext f13
    refine ⟨o1, _, rfl, SqT.of o14.1, fun rb14 hrb14 => ?_⟩
    have s14 := same_new (o := .tup (fs.map V.int).reverse) hrb14
    have f14 := f13.trans (.of s14)
    have t14 := t13.ext s14
    have hb14 : BatchAt (upd H13 rb14 (.tup (fs.map V.int).reverse)) rb14 z k fs.reverse := ⟨by rw [upd_same, List.map_reverse], by rw [List.length_reverse]; exact hfl, hvr⟩
    generalize upd H13 rb14 (.tup (fs.map V.int).reverse) = H14 at f14 t14 hb14
    walk_at "rd"
    refine ⟨gb, rb14, z, k, [0, z], fs.reverse, 1, k, z, rfl, hG7.ext f14, hb14, rfl, by omega, t14, fun H15 r15 e15 t15 hr15 => ?_⟩
    rw [R3] at hr15
    have f15 := f14.trans e15
    walk_at "rd"
    refine ⟨gb, o1, z, k, [0, z], fs, 0, k, 0, rfl, hG7.ext f15, ho7.ext f15, rfl, by omega, t15, fun H16 r16 e16 t16 hr16 => ?_⟩
    rw [R0] at hr16
    have f16 := f15.trans e16
    have hr15' := e16 _ _ hr15 (fun _ w => by cases w)
    walk_at "rd"
    refine ⟨_, _, .tup (SqT.of hr15') (dp_ints _), .tup (SqT.of hr16) (dp_ints _), shaped_intsT _, shaped_intsT _, ?_⟩
    rw [neq_ints]
    walk_at "rd"
    try refine ite2 (fun w => absurd w Bool.false_ne_true) (fun _ => ?_)
    walk_at "rd"
    have hgE := hg7.ext f16
    have hoE := ho7.ext f16
    have hmE := hm7.ext f16
    have hGE := hG7.ext f16
    have hbp := hgE.2.1
    have hml : (wr z wt fs).length = k := hmE.2.1
    refine ⟨_, _, rfl, SqT.of hbp, for_enumT (K := K) (a := b) (xs := pts.map V.int) (fun i σ' H' => Mid (∃ (y10 y11 y12 : Option V), σ' = [some (.ref a), some (.ref p), some (.ref g), some (.int z), some (.int (k : Nat)), some (.ref b), some (.ref o1), some (.int wt), some (.ref om), some (.ref gb), y10, y11, y12, none] ∧ LamX.ExtN H16 H' ∧ LamX.Tabs TZ H')) (.mk ⟨_, _, _, rfl, .refl H16, t16⟩) (fun i σ' H' m => ?_) (fun i x Ta σ' H' hx m hT => ?_) (fun σ' H' m => ?_)⟩
    · obtain ⟨y10, y11, y12, rfl, e, t2⟩ := m.out
      exact SqT.of (e _ _ hbp (fun _ w => by cases w))
    · obtain ⟨y10, y11, y12, rfl, e, t2⟩ := m.out
      have hxi : ∃ xi, pts[i]? = some xi ∧ x = V.int xi := by
        rw [List.getElem?_map] at hx
        cases hp : pts[i]? with
        | none => rw [hp] at hx; cases hx
        | some xi => rw [hp] at hx; exact ⟨xi, rfl, (Option.some.inj hx).symm⟩
      obtain ⟨xi, hpi, rfl⟩ := hxi
      have hxb := ig.1 xi (List.mem_of_getElem? hpi)
      have sT := same_new (o := .tup [.int (i : Nat), V.int xi]) hT
      have e3 := e.trans (.of sT)
      have t3 := t2.ext sT
      walk_at "rd"
      refine ⟨Ta, _, rfl, SqT.of upd_same, rfl, ?_⟩
      generalize upd H' Ta (.tup [.int (i : Nat), V.int xi]) = Ha at e3 t3
      walk_at "rd"
      refine ⟨fun σ' H' => Mid (∃ (y12 : Option V), σ' = [some (.ref a), some (.ref p), some (.ref g), some (.int z), some (.int (k : Nat)), some (.ref b), some (.ref o1), some (.int wt), some (.ref om), some (.ref gb), some (.int (i : Nat)), some (.int xi), y12, none] ∧ LamX.ExtN H16 H' ∧ LamX.Tabs TZ H'), ?_, ?_⟩
      · walk_at "rd"
        refine ite2 (fun e1 => ?_) (fun e1 => ?_)
        · have e2 : xi = z := by simpa using e1
          walk_at "rd"
          refine ⟨g, om, z, k, pts, wr z wt fs, i, k, xi, rfl, (hgE.ext e3).to, hmE.ext e3, hpi, by omega, t3, fun Hb r1 eb t4 hr1 => ?_⟩
          have e4 := e3.trans eb
          walk_at "rd"
          refine ⟨om, _, rfl, SqT.of (hmE.ext e4).1, fun rv hrv => ?_⟩
          have s5 := same_new (o := .tup ((wr z wt fs).map V.int).reverse) hrv
          have e5 := e4.trans (.of s5)
          have t5 := t4.ext s5
          have hr1' := s5 _ _ hr1
          have hrv' : upd Hb rv (.tup ((wr z wt fs).map V.int).reverse) rv = some (.tup ((rowL z (wr z wt fs) xi k).map V.int)) := by
            have er := rev_val hmE.2.2
            rw [hml] at er
            rw [upd_same, ← List.map_reverse, er, e2]
            rfl
          generalize upd Hb rv (.tup ((wr z wt fs).map V.int).reverse) = Hc at e5 t5 hr1' hrv'
          walk_at "rd"
          refine ⟨_, _, .tup (SqT.of hr1') (dp_ints _), .tup (SqT.of hrv') (dp_ints _), shaped_intsT _, shaped_intsT _, ?_⟩
          rw [neq_ints]
          walk_at "rd"
          try refine ite2 (fun w => absurd w Bool.false_ne_true) (fun _ => ?_)
          walk_at "rd"
          exact .mk ⟨_, rfl, e5, t5⟩
        · have e2 : ¬ xi = z := by simpa using e1
          have o1b := Int.emod_nonneg (xi + wt) (show z ≠ 0 by omega)
          have o2b := Int.emod_lt_of_pos (xi + wt) (show 0 < z by omega)
          walk_at "rd"
          refine ⟨g, om, z, k, pts, wr z wt fs, i, k, xi, rfl, (hgE.ext e3).to, hmE.ext e3, hpi, by omega, t3, fun Hb r1 eb t4 hr1 => ?_⟩
          have e4 := e3.trans eb
          walk_at "rd"
          refine ⟨by show 1 ≤ sizeLine; decide, fun u2 hu2 => ?_⟩
          walk_at "rd"
          refine ⟨by show 3 ≤ sizeLine; decide, fun g2 hg2' => ?_⟩
          have s5 := (same_new (o := .tup [V.int ((xi + wt) % z)]) hu2).trans (same_new (o := .tup [V.int z, V.int (k : Nat), V.ref u2]) hg2')
          have e5 := e4.trans (.of s5)
          have t5 := t4.ext s5
          have hr1' := s5 _ _ hr1
          have hg5' : GroundAt (upd (upd Hb u2 (.tup [V.int ((xi + wt) % z)])) g2 (.tup [V.int z, V.int (k : Nat), V.ref u2])) g2 z k [(xi + wt) % z] := by
            refine ⟨u2, upd_same, (same_new hg2') _ _ upd_same, pr, k1, k2, fun x hx => ?_, by simp, by simp, by simp⟩
            rw [List.mem_singleton.mp hx]
            omega
          generalize upd (upd Hb u2 (.tup [V.int ((xi + wt) % z)])) g2 (.tup [V.int z, V.int (k : Nat), V.ref u2]) = Hc at e5 t5 hr1' hg5'
          walk_at "rd"
          refine ⟨g2, o1, z, k, [(xi + wt) % z], fs, 0, k, (xi + wt) % z, rfl, hg5', hoE.ext e5, rfl, by omega, t5, fun Hd r2 ed t6 hr2 => ?_⟩
          have e6 := e5.trans ed
          have hr1d := ed _ _ hr1' (fun _ w => by cases w)
          have er : rowL z (wr z wt fs) xi k = rowL z fs ((xi + wt) % z) k := List.map_congr_left fun j _ => val_comp (by omega) e2
          rw [er] at hr1d
          walk_at "rd"
          refine ⟨_, _, .tup (SqT.of hr1d) (dp_ints _), .tup (SqT.of hr2) (dp_ints _), shaped_intsT _, shaped_intsT _, ?_⟩
          rw [neq_ints]
          walk_at "rd"
          try refine ite2 (fun w => absurd w Bool.false_ne_true) (fun _ => ?_)
          walk_at "rd"
          refine ⟨g, o1, z, k, pts, fs, i, k, xi, rfl, (hgE.ext e6).to, hoE.ext e6, hpi, by omega, t6, fun He r3 ee t7 hr3 => ?_⟩
          have e7 := e6.trans ee
          walk_at "rd"
          refine ⟨g, o1, z, xi, k, pts, fs, rfl, (hgE.ext e7).to, hoE.ext e7, by omega, by omega, fun Hf o3 sf hm3 => ?_⟩
          have e8' := e7.trans (.of sf)
          have t8' := t7.ext sf
          have hr3' := sf _ _ hr3
          walk_at "rd"
          refine ⟨gb, o3, z, k, [0, z], wr z xi fs, 0, k, 0, rfl, hGE.ext e8', hm3, rfl, by omega, t8', fun Hg r4 eg t9' hr4 => ?_⟩
          have e9' := e8'.trans eg
          have hr3g := eg _ _ hr3' (fun _ w => by cases w)
          have er2 : rowL z (wr z xi fs) 0 k = rowL z fs xi k := by
            have q1 := row_at0 (p := z) (by omega) hm3.2.2
            rw [hm3.2.1] at q1
            rw [rowL, q1, wr_val e2, hfl]
            rfl
          rw [er2] at hr4
          walk_at "rd"
          refine ⟨_, _, .tup (SqT.of hr3g) (dp_ints _), .tup (SqT.of hr4) (dp_ints _), shaped_intsT _, shaped_intsT _, ?_⟩
          rw [neq_ints]
          walk_at "rd"
          try refine ite2 (fun w => absurd w Bool.false_ne_true) (fun _ => ?_)
          walk_at "rd"
          exact .mk ⟨_, rfl, e9', t9'⟩
      · intro σ' Hm mm
        obtain ⟨y12, rfl, em, tm⟩ := mm.out
        walk_at "rd"
        refine ⟨by omega, by omega, fun D5 hD5 => ?_⟩
        refine lc_range (lo := 0) (n := ((k : Int) + 2).toNat) (g := gName 13) (fun j Hc => LamX.ExtN Hm Hc ∧ LamX.Tabs TZ Hc ∧ Hc D5 = some (.lst [])) ⟨.of (same_new hD5), tm.ext (same_new hD5), upd_same⟩ (fun j Hc hj hc => ?_) (fun Hc hc => ?_)
        · obtain ⟨c1, c2, c3⟩ := hc
          have ec := em.trans c1
          refine ⟨rfl, ?_⟩
          walk_at "rd"
          refine ⟨g, o1, z, k, pts, fs, i, j, xi, by rw [Int.zero_add]; rfl, (hgE.ext ec).to, hoE.ext ec, hpi, by omega, c2, fun Hd ed td => ?_⟩
          walk_at "rd"
          refine ⟨g, o1, z, k, pts, fs, i, k + 2, xi, rfl, (hgE.ext (ec.trans ed)).to, hoE.ext (ec.trans ed), hpi, by omega, td, fun He r1 ee te hr1 => ?_⟩
          walk_at "rd"
          refine ⟨r1, _, _, V.int (valZ z fs xi j), rfl, rfl, SqT.of hr1, by rw [Int.zero_add]; exact atI_nat (row_get (by omega)), ?_⟩
          walk_at "rd"
          refine ite2 (fun w => ?_) (fun _ => ?_)
          · exfalso
            simp at w
          · exact ⟨(c1.trans ed).trans ee, te, ee _ _ (ed _ _ c3 (fun _ w => by cases w)) (fun _ w => by cases w)⟩
        · obtain ⟨c1, c2, c3⟩ := hc
          walk_at "rd"
          refine ⟨by show 0 ≤ sizeLine; decide, fun d hd => ?_⟩
          walk_at "rd"
          refine ⟨.list [], .list [], .lst (SqL.of ((same_new hd) _ _ c3)) .nil, .lst (SqL.of upd_same) .nil, shaped_nil, shaped_nil, ?_⟩
          rw [show (!PyData.eqv (.list []) (.list [])) = false from eqv_nil_nil]
          walk_at "rd"
          try refine ite2 (fun w => absurd w Bool.false_ne_true) (fun _ => ?_)
          walk_at "rd"
          exact .mk ⟨_, _, _, rfl, (em.trans c1).trans (.of (same_new hd)), c2.ext (same_new hd)⟩
    · obtain ⟨y10, y11, y12, rfl, e, t2⟩ := m.out
      walk_at "rd"
      exact q H'
end

theorem all_mk {l : PySem.W.OpenLaw} {w : World} {K : PySem.W.Frag} {h : Heap} {mg : Str → Option Value} {ts : List Addr} {fa f0 f1 f2 f3 f4 f5 f6 f7 f8 f9 f10 f11 f12 f13 f14 f15 f16 f17 f18 f19 f20 f21 f22 f23 f24 f25 c_points_fit c_batch_fault : Addr} (X : K.In h) (G : h.Ns mainGlobals mg) (hfa : mg "law" = some (.ref fa)) (hT : ∀ P ∈ ts, h.get? P = some (PySem.W.tabObj #[]))
    {od0 an0 : Option Addr} {sl0 : Array (Option Value)} {oc0 kV0 dc0 pm0 ct0 cd0 : Value}
    {od1 an1 : Option Addr} {sl1 : Array (Option Value)} {oc1 kV1 dc1 pm1 ct1 cd1 : Value}
    {od2 an2 : Option Addr} {sl2 : Array (Option Value)} {oc2 kV2 dc2 pm2 ct2 cd2 : Value}
    {od3 an3 : Option Addr} {sl3 : Array (Option Value)} {oc3 kV3 dc3 pm3 ct3 cd3 : Value}
    {od4 an4 : Option Addr} {sl4 : Array (Option Value)} {oc4 kV4 dc4 pm4 ct4 cd4 : Value}
    {od5 an5 : Option Addr} {sl5 : Array (Option Value)} {oc5 kV5 dc5 pm5 ct5 : Value}
    {od6 an6 : Option Addr} {sl6 : Array (Option Value)} {oc6 kV6 dc6 pm6 ct6 cd6 : Value}
    {od7 an7 : Option Addr} {sl7 : Array (Option Value)} {oc7 kV7 dc7 pm7 ct7 cd7 : Value}
    {od8 an8 : Option Addr} {sl8 : Array (Option Value)} {oc8 kV8 dc8 pm8 ct8 : Value}
    {od9 an9 : Option Addr} {sl9 : Array (Option Value)} {oc9 kV9 dc9 pm9 ct9 cd9 : Value}
    {od10 an10 : Option Addr} {sl10 : Array (Option Value)} {oc10 kV10 dc10 pm10 ct10 cd10 : Value}
    {od11 an11 : Option Addr} {sl11 : Array (Option Value)} {oc11 kV11 dc11 pm11 ct11 cd11 : Value}
    {od12 an12 : Option Addr} {sl12 : Array (Option Value)} {oc12 kV12 dc12 pm12 ct12 cd12 : Value}
    {od13 an13 : Option Addr} {sl13 : Array (Option Value)} {oc13 kV13 dc13 pm13 ct13 cd13 : Value}
    {od14 an14 : Option Addr} {sl14 : Array (Option Value)} {oc14 kV14 dc14 pm14 ct14 cd14 : Value}
    {od15 an15 : Option Addr} {sl15 : Array (Option Value)} {oc15 kV15 dc15 pm15 ct15 cd15 : Value}
    {od16 an16 : Option Addr} {sl16 : Array (Option Value)} {oc16 kV16 dc16 pm16 ct16 cd16 : Value}
    {od17 an17 : Option Addr} {sl17 : Array (Option Value)} {oc17 kV17 dc17 pm17 ct17 cd17 : Value}
    {od18 an18 : Option Addr} {sl18 : Array (Option Value)} {oc18 kV18 dc18 pm18 ct18 cd18 : Value}
    {od19 an19 : Option Addr} {sl19 : Array (Option Value)} {oc19 kV19 dc19 pm19 ct19 cd19 : Value}
    {od20 an20 : Option Addr} {sl20 : Array (Option Value)} {oc20 kV20 dc20 pm20 ct20 cd20 : Value}
    {od21 an21 : Option Addr} {sl21 : Array (Option Value)} {oc21 kV21 dc21 pm21 ct21 cd21 : Value}
    {od22 an22 : Option Addr} {sl22 : Array (Option Value)} {oc22 kV22 dc22 pm22 ct22 cd22 : Value}
    {od23 an23 : Option Addr} {sl23 : Array (Option Value)} {oc23 kV23 dc23 pm23 ct23 cd23 : Value}
    {od24 an24 : Option Addr} {sl24 : Array (Option Value)} {oc24 kV24 dc24 pm24 ct24 cd24 : Value}
    {od25 an25 : Option Addr} {sl25 : Array (Option Value)} {oc25 kV25 dc25 pm25 ct25 cd25 : Value}
    {tk_MOST_PRIME : Tok}
    {tk_MOST_NUMBERS : Tok}
    {tk_MOST_SHELVES : Tok}
    {tk_MOST_CELLS : Tok}
    (a0 : PySem.W.nsIn K mainGlobals "is_number" = some (some (.ref f0))) (l0 : K.lookup f0 = some ⟨oc0, od0, .func (PySem.W.fnOf "is_number" "is_number" (defArgs s_is_number) (defBody s_is_number) (defScope s_is_number) .none kV0 dc0 pm0 an0 cd0 ct0), sl0⟩) (c0 : PySem.W.codeIn K cd0 "is_number" = true) (k0 : PySem.W.keepIn K (.ref f0) = true)
    (a1 : PySem.W.nsIn K mainGlobals "number_between" = some (some (.ref f1))) (l1 : K.lookup f1 = some ⟨oc1, od1, .func (PySem.W.fnOf "number_between" "number_between" (defArgs s_number_between) (defBody s_number_between) (defScope s_number_between) .none kV1 dc1 pm1 an1 cd1 ct1), sl1⟩) (c1 : PySem.W.codeIn K cd1 "number_between" = true) (k1 : PySem.W.keepIn K (.ref f1) = true)
    (a2 : PySem.W.nsIn K mainGlobals "tuple_fault" = some (some (.ref f2))) (l2 : K.lookup f2 = some ⟨oc2, od2, .func (PySem.W.fnOf "tuple_fault" "tuple_fault" (defArgs s_tuple_fault) (defBody s_tuple_fault) (defScope s_tuple_fault) .none kV2 dc2 pm2 an2 cd2 ct2), sl2⟩) (c2 : PySem.W.codeIn K cd2 "tuple_fault" = true) (k2 : PySem.W.keepIn K (.ref f2) = true)
    (a3 : PySem.W.nsIn K mainGlobals "tuple_fits" = some (some (.ref f3))) (l3 : K.lookup f3 = some ⟨oc3, od3, .func (PySem.W.fnOf "tuple_fits" "tuple_fits" (defArgs s_tuple_fits) (defBody s_tuple_fits) (defScope s_tuple_fits) .none kV3 dc3 pm3 an3 cd3 ct3), sl3⟩) (c3 : PySem.W.codeIn K cd3 "tuple_fits" = true) (k3 : PySem.W.keepIn K (.ref f3) = true)
    (a4 : PySem.W.nsIn K mainGlobals "is_prime" = some (some (.ref f4))) (l4 : K.lookup f4 = some ⟨oc4, od4, .func (PySem.W.fnOf "is_prime" "is_prime" (defArgs s_is_prime) (defBody s_is_prime) (defScope s_is_prime) .none kV4 dc4 pm4 an4 cd4 ct4), sl4⟩) (c4 : PySem.W.codeIn K cd4 "is_prime" = true) (k4 : PySem.W.keepIn K (.ref f4) = true)
    (a5 : PySem.W.nsIn K mainGlobals "points_fit" = some (some (.ref f5))) (l5 : K.lookup f5 = some ⟨oc5, od5, .func (PySem.W.fnOf "points_fit" "points_fit" (defArgs s_points_fit) (defBody s_points_fit) (defScope s_points_fit) .none kV5 dc5 pm5 an5 (.ref c_points_fit) ct5), sl5⟩) (c5 : PySem.W.codeIn K (.ref c_points_fit) "points_fit" = true) (k5 : PySem.W.keepIn K (.ref f5) = true)
    (a6 : PySem.W.nsIn K mainGlobals "ground_fault" = some (some (.ref f6))) (l6 : K.lookup f6 = some ⟨oc6, od6, .func (PySem.W.fnOf "ground_fault" "ground_fault" (defArgs s_ground_fault) (defBody s_ground_fault) (defScope s_ground_fault) .none kV6 dc6 pm6 an6 cd6 ct6), sl6⟩) (c6 : PySem.W.codeIn K cd6 "ground_fault" = true) (k6 : PySem.W.keepIn K (.ref f6) = true)
    (a7 : PySem.W.nsIn K mainGlobals "made_ground" = some (some (.ref f7))) (l7 : K.lookup f7 = some ⟨oc7, od7, .func (PySem.W.fnOf "made_ground" "made_ground" (defArgs s_made_ground) (defBody s_made_ground) (defScope s_made_ground) .none kV7 dc7 pm7 an7 cd7 ct7), sl7⟩) (c7 : PySem.W.codeIn K cd7 "made_ground" = true) (k7 : PySem.W.keepIn K (.ref f7) = true)
    (a8 : PySem.W.nsIn K mainGlobals "batch_fault" = some (some (.ref f8))) (l8 : K.lookup f8 = some ⟨oc8, od8, .func (PySem.W.fnOf "batch_fault" "batch_fault" (defArgs s_batch_fault) (defBody s_batch_fault) (defScope s_batch_fault) .none kV8 dc8 pm8 an8 (.ref c_batch_fault) ct8), sl8⟩) (c8 : PySem.W.codeIn K (.ref c_batch_fault) "batch_fault" = true) (k8 : PySem.W.keepIn K (.ref f8) = true)
    (a9 : PySem.W.nsIn K mainGlobals "made_batch" = some (some (.ref f9))) (l9 : K.lookup f9 = some ⟨oc9, od9, .func (PySem.W.fnOf "made_batch" "made_batch" (defArgs s_made_batch) (defBody s_made_batch) (defScope s_made_batch) .none kV9 dc9 pm9 an9 cd9 ct9), sl9⟩) (c9 : PySem.W.codeIn K cd9 "made_batch" = true) (k9 : PySem.W.keepIn K (.ref f9) = true)
    (a10 : PySem.W.nsIn K mainGlobals "powers" = some (some (.ref f10))) (l10 : K.lookup f10 = some ⟨oc10, od10, .func (PySem.W.fnOf "powers" "powers" (defArgs s_powers) (defBody s_powers) (defScope s_powers) .none kV10 dc10 pm10 an10 cd10 ct10), sl10⟩) (c10 : PySem.W.codeIn K cd10 "powers" = true) (k10 : PySem.W.keepIn K (.ref f10) = true)
    (a11 : PySem.W.nsIn K mainGlobals "later_weights" = some (some (.ref f11))) (l11 : K.lookup f11 = some ⟨oc11, od11, .func (PySem.W.fnOf "later_weights" "later_weights" (defArgs s_later_weights) (defBody s_later_weights) (defScope s_later_weights) .none kV11 dc11 pm11 an11 cd11 ct11), sl11⟩) (c11 : PySem.W.codeIn K cd11 "later_weights" = true) (k11 : PySem.W.keepIn K (.ref f11) = true)
    (a12 : PySem.W.nsIn K mainGlobals "value_weights" = some (some (.ref f12))) (l12 : K.lookup f12 = some ⟨oc12, od12, .func (PySem.W.fnOf "value_weights" "value_weights" (defArgs s_value_weights) (defBody s_value_weights) (defScope s_value_weights) .none kV12 dc12 pm12 an12 cd12 ct12), sl12⟩) (c12 : PySem.W.codeIn K cd12 "value_weights" = true) (k12 : PySem.W.keepIn K (.ref f12) = true)
    (a13 : PySem.W.nsIn K mainGlobals "value" = some (some (.ref f13))) (l13 : K.lookup f13 = some ⟨oc13, od13, .func (PySem.W.fnOf "value" "value" (defArgs s_value) (defBody s_value) (defScope s_value) .none kV13 dc13 pm13 an13 cd13 ct13), sl13⟩) (c13 : PySem.W.codeIn K cd13 "value" = true) (k13 : PySem.W.keepIn K (.ref f13) = true)
    (a14 : PySem.W.nsIn K mainGlobals "point_of" = some (some (.ref f14))) (l14 : K.lookup f14 = some ⟨oc14, od14, .func (PySem.W.fnOf "point_of" "point_of" (defArgs s_point_of) (defBody s_point_of) (defScope s_point_of) .none kV14 dc14 pm14 an14 cd14 ct14), sl14⟩) (c14 : PySem.W.codeIn K cd14 "point_of" = true) (k14 : PySem.W.keepIn K (.ref f14) = true)
    (a15 : PySem.W.nsIn K mainGlobals "cell" = some (some (.ref f15))) (l15 : K.lookup f15 = some ⟨oc15, od15, .func (PySem.W.fnOf "cell" "cell" (defArgs s_cell) (defBody s_cell) (defScope s_cell) .none kV15 dc15 pm15 an15 cd15 ct15), sl15⟩) (c15 : PySem.W.codeIn K cd15 "cell" = true) (k15 : PySem.W.keepIn K (.ref f15) = true)
    (a16 : PySem.W.nsIn K mainGlobals "row" = some (some (.ref f16))) (l16 : K.lookup f16 = some ⟨oc16, od16, .func (PySem.W.fnOf "row" "row" (defArgs s_row) (defBody s_row) (defScope s_row) .none kV16 dc16 pm16 an16 cd16 ct16), sl16⟩) (c16 : PySem.W.codeIn K cd16 "row" = true) (k16 : PySem.W.keepIn K (.ref f16) = true)
    (a17 : PySem.W.nsIn K mainGlobals "_law_pool" = some (some (.ref f17))) (l17 : K.lookup f17 = some ⟨oc17, od17, .func (PySem.W.fnOf "_law_pool" "_law_pool" (defArgs s__law_pool) (defBody s__law_pool) (defScope s__law_pool) .none kV17 dc17 pm17 an17 cd17 ct17), sl17⟩) (c17 : PySem.W.codeIn K cd17 "_law_pool" = true) (k17 : PySem.W.keepIn K (.ref f17) = true)
    (a18 : PySem.W.nsIn K mainGlobals "_law_draw" = some (some (.ref f18))) (l18 : K.lookup f18 = some ⟨oc18, od18, .func (PySem.W.fnOf "_law_draw" "_law_draw" (defArgs s__law_draw) (defBody s__law_draw) (defScope s__law_draw) .none kV18 dc18 pm18 an18 cd18 ct18), sl18⟩) (c18 : PySem.W.codeIn K cd18 "_law_draw" = true) (k18 : PySem.W.keepIn K (.ref f18) = true)
    (a19 : PySem.W.nsIn K mainGlobals "_law_pick" = some (some (.ref f19))) (l19 : K.lookup f19 = some ⟨oc19, od19, .func (PySem.W.fnOf "_law_pick" "_law_pick" (defArgs s__law_pick) (defBody s__law_pick) (defScope s__law_pick) .none kV19 dc19 pm19 an19 cd19 ct19), sl19⟩) (c19 : PySem.W.codeIn K cd19 "_law_pick" = true) (k19 : PySem.W.keepIn K (.ref f19) = true)
    (a20 : PySem.W.nsIn K mainGlobals "_law_turned" = some (some (.ref f20))) (l20 : K.lookup f20 = some ⟨oc20, od20, .func (PySem.W.fnOf "_law_turned" "_law_turned" (defArgs s__law_turned) (defBody s__law_turned) (defScope s__law_turned) .none kV20 dc20 pm20 an20 cd20 ct20), sl20⟩) (c20 : PySem.W.codeIn K cd20 "_law_turned" = true) (k20 : PySem.W.keepIn K (.ref f20) = true)
    (a21 : PySem.W.nsIn K mainGlobals "_law_ground" = some (some (.ref f21))) (l21 : K.lookup f21 = some ⟨oc21, od21, .func (PySem.W.fnOf "_law_ground" "_law_ground" (defArgs s__law_ground) (defBody s__law_ground) (defScope s__law_ground) .none kV21 dc21 pm21 an21 cd21 ct21), sl21⟩) (c21 : PySem.W.codeIn K cd21 "_law_ground" = true) (k21 : PySem.W.keepIn K (.ref f21) = true)
    (a22 : PySem.W.nsIn K mainGlobals "_law_batch" = some (some (.ref f22))) (l22 : K.lookup f22 = some ⟨oc22, od22, .func (PySem.W.fnOf "_law_batch" "_law_batch" (defArgs s__law_batch) (defBody s__law_batch) (defScope s__law_batch) .none kV22 dc22 pm22 an22 cd22 ct22), sl22⟩) (c22 : PySem.W.codeIn K cd22 "_law_batch" = true) (k22 : PySem.W.keepIn K (.ref f22) = true)
    (a23 : PySem.W.nsIn K mainGlobals "_law_written_out" = some (some (.ref f23))) (l23 : K.lookup f23 = some ⟨oc23, od23, .func (PySem.W.fnOf "_law_written_out" "_law_written_out" (defArgs s__law_written_out) (defBody s__law_written_out) (defScope s__law_written_out) .none kV23 dc23 pm23 an23 cd23 ct23), sl23⟩) (c23 : PySem.W.codeIn K cd23 "_law_written_out" = true) (k23 : PySem.W.keepIn K (.ref f23) = true)
    (a24 : PySem.W.nsIn K mainGlobals "_law_moved" = some (some (.ref f24))) (l24 : K.lookup f24 = some ⟨oc24, od24, .func (PySem.W.fnOf "_law_moved" "_law_moved" (defArgs s__law_moved) (defBody s__law_moved) (defScope s__law_moved) .none kV24 dc24 pm24 an24 cd24 ct24), sl24⟩) (c24 : PySem.W.codeIn K cd24 "_law_moved" = true) (k24 : PySem.W.keepIn K (.ref f24) = true)
    (a25 : PySem.W.nsIn K mainGlobals "law" = some (some (.ref f25))) (l25 : K.lookup f25 = some ⟨oc25, od25, .func (PySem.W.fnOf "law" "law" (defArgs s_law) (defBody s_law) (defScope s_law) .none kV25 dc25 pm25 an25 cd25 ct25), sl25⟩) (c25 : PySem.W.codeIn K cd25 "law" = true) (k25 : PySem.W.keepIn K (.ref f25) = true)
    (zb_len : PySem.W.nsIn K mainGlobals "len" = some none)
    (zb_int : PySem.W.nsIn K mainGlobals "int" = some none)
    (zb_list : PySem.W.nsIn K mainGlobals "list" = some none)
    (zb_tuple : PySem.W.nsIn K mainGlobals "tuple" = some none)
    (zb_range : PySem.W.nsIn K mainGlobals "range" = some none)
    (zb_zip : PySem.W.nsIn K mainGlobals "zip" = some none)
    (zb_enumerate : PySem.W.nsIn K mainGlobals "enumerate" = some none)
    (zb_isinstance : PySem.W.nsIn K mainGlobals "isinstance" = some none)
    (zb_bool : PySem.W.nsIn K mainGlobals "bool" = some none)
    (zb_min : PySem.W.nsIn K mainGlobals "min" = some none)
    (zb_sum : PySem.W.nsIn K mainGlobals "sum" = some none)
    (zb_set : PySem.W.nsIn K mainGlobals "set" = some none)
    (zb_ValueError : PySem.W.nsIn K mainGlobals "ValueError" = some none)
    (zc_MOST_PRIME : PySem.W.nsIn K mainGlobals "MOST_PRIME" = some (some (.int 65521 tk_MOST_PRIME)))
    (zc_MOST_NUMBERS : PySem.W.nsIn K mainGlobals "MOST_NUMBERS" = some (some (.int 12 tk_MOST_NUMBERS)))
    (zc_MOST_SHELVES : PySem.W.nsIn K mainGlobals "MOST_SHELVES" = some (some (.int 8 tk_MOST_SHELVES)))
    (zc_MOST_CELLS : PySem.W.nsIn K mainGlobals "MOST_CELLS" = some (some (.int 1024 tk_MOST_CELLS)))
    (q1 : (([(c_points_fit, He.tabOf K c_points_fit), (c_batch_fault, He.tabOf K c_batch_fault)] : List (Addr × Addr)).all fun p => ts.contains p.2) = true) (q2 : (([(c_points_fit, He.tabOf K c_points_fit), (c_batch_fault, He.tabOf K c_batch_fault)] : List (Addr × Addr)).all fun p => (K.lookup p.2).isNone) = true) (q3 : (([(c_points_fit, He.tabOf K c_points_fit), (c_batch_fault, He.tabOf K c_batch_fault)] : List (Addr × Addr)).all fun p => PySem.W.codeHdIn K p.1 p.2) = true) (q4 : decide (([(c_points_fit, He.tabOf K c_points_fit), (c_batch_fault, He.tabOf K c_batch_fault)] : List (Addr × Addr)).map (·.2)).Nodup = true) :
    LamX.LawAtS l w K CX0 11 63 "script" mg fa h := by
  have e := hfa.symm.trans (PySem.W.mg_of X G a25)
  cases e
  have T : Txt K mg := { b_len := PySem.W.mg_none_of X G zb_len, b_int := PySem.W.mg_none_of X G zb_int, b_list := PySem.W.mg_none_of X G zb_list, b_tuple := PySem.W.mg_none_of X G zb_tuple, b_range := PySem.W.mg_none_of X G zb_range, b_zip := PySem.W.mg_none_of X G zb_zip, b_enumerate := PySem.W.mg_none_of X G zb_enumerate, b_isinstance := PySem.W.mg_none_of X G zb_isinstance, b_bool := PySem.W.mg_none_of X G zb_bool, b_min := PySem.W.mg_none_of X G zb_min, b_sum := PySem.W.mg_none_of X G zb_sum, b_set := PySem.W.mg_none_of X G zb_set, b_ValueError := PySem.W.mg_none_of X G zb_ValueError, c_MOST_PRIME := ⟨_, PySem.W.mg_of X G zc_MOST_PRIME⟩, c_MOST_NUMBERS := ⟨_, PySem.W.mg_of X G zc_MOST_NUMBERS⟩, c_MOST_SHELVES := ⟨_, PySem.W.mg_of X G zc_MOST_SHELVES⟩, c_MOST_CELLS := ⟨_, PySem.W.mg_of X G zc_MOST_CELLS⟩ }
  have F0 := fun_mk (st := s_is_number) l0 c0 k0
  have D_is_number : DefAt K mg "is_number" s_is_number ["thing"] f0 _ := ⟨F0, F0.binds (ps := ["thing"]) fun _ _ _ _ _ _ us hl => match us, hl with | [_], _ => rfl, PySem.W.mg_of X G a0⟩
  have F1 := fun_mk (st := s_number_between) l1 c1 k1
  have D_number_between : DefAt K mg "number_between" s_number_between ["thing", "least", "most"] f1 _ := ⟨F1, F1.binds (ps := ["thing", "least", "most"]) fun _ _ _ _ _ _ us hl => match us, hl with | [_, _, _], _ => rfl, PySem.W.mg_of X G a1⟩
  have F2 := fun_mk (st := s_tuple_fault) l2 c2 k2
  have D_tuple_fault : DefAt K mg "tuple_fault" s_tuple_fault ["thing", "least", "most", "fits"] f2 _ := ⟨F2, F2.binds (ps := ["thing", "least", "most", "fits"]) fun _ _ _ _ _ _ us hl => match us, hl with | [_, _, _, _], _ => rfl, PySem.W.mg_of X G a2⟩
  have F3 := fun_mk (st := s_tuple_fits) l3 c3 k3
  have D_tuple_fits : DefAt K mg "tuple_fits" s_tuple_fits ["thing", "least", "most", "fits"] f3 _ := ⟨F3, F3.binds (ps := ["thing", "least", "most", "fits"]) fun _ _ _ _ _ _ us hl => match us, hl with | [_, _, _, _], _ => rfl, PySem.W.mg_of X G a3⟩
  have F4 := fun_mk (st := s_is_prime) l4 c4 k4
  have D_is_prime : DefAt K mg "is_prime" s_is_prime ["n"] f4 _ := ⟨F4, F4.binds (ps := ["n"]) fun _ _ _ _ _ _ us hl => match us, hl with | [_], _ => rfl, PySem.W.mg_of X G a4⟩
  have F5 := fun_mk (st := s_points_fit) l5 c5 k5
  have D_points_fit : DefAt K mg "points_fit" s_points_fit ["p", "thing"] f5 _ := ⟨F5, F5.binds (ps := ["p", "thing"]) fun _ _ _ _ _ _ us hl => match us, hl with | [_, _], _ => rfl, PySem.W.mg_of X G a5⟩
  have C_points_fit : CodeAt K "points_fit" s_points_fit f5 _ c_points_fit := codeAt_mk l5 c5
  have F6 := fun_mk (st := s_ground_fault) l6 c6 k6
  have D_ground_fault : DefAt K mg "ground_fault" s_ground_fault ["thing"] f6 _ := ⟨F6, F6.binds (ps := ["thing"]) fun _ _ _ _ _ _ us hl => match us, hl with | [_], _ => rfl, PySem.W.mg_of X G a6⟩
  have F7 := fun_mk (st := s_made_ground) l7 c7 k7
  have D_made_ground : DefAt K mg "made_ground" s_made_ground ["thing"] f7 _ := ⟨F7, F7.binds (ps := ["thing"]) fun _ _ _ _ _ _ us hl => match us, hl with | [_], _ => rfl, PySem.W.mg_of X G a7⟩
  have F8 := fun_mk (st := s_batch_fault) l8 c8 k8
  have D_batch_fault : DefAt K mg "batch_fault" s_batch_fault ["ground", "thing"] f8 _ := ⟨F8, F8.binds (ps := ["ground", "thing"]) fun _ _ _ _ _ _ us hl => match us, hl with | [_, _], _ => rfl, PySem.W.mg_of X G a8⟩
  have C_batch_fault : CodeAt K "batch_fault" s_batch_fault f8 _ c_batch_fault := codeAt_mk l8 c8
  have F9 := fun_mk (st := s_made_batch) l9 c9 k9
  have D_made_batch : DefAt K mg "made_batch" s_made_batch ["ground", "thing"] f9 _ := ⟨F9, F9.binds (ps := ["ground", "thing"]) fun _ _ _ _ _ _ us hl => match us, hl with | [_, _], _ => rfl, PySem.W.mg_of X G a9⟩
  have F10 := fun_mk (st := s_powers) l10 c10 k10
  have D_powers : DefAt K mg "powers" s_powers ["p", "a", "many"] f10 _ := ⟨F10, F10.binds (ps := ["p", "a", "many"]) fun _ _ _ _ _ _ us hl => match us, hl with | [_, _, _], _ => rfl, PySem.W.mg_of X G a10⟩
  have F11 := fun_mk (st := s_later_weights) l11 c11 k11
  have D_later_weights : DefAt K mg "later_weights" s_later_weights ["p", "point", "weights"] f11 _ := ⟨F11, F11.binds (ps := ["p", "point", "weights"]) fun _ _ _ _ _ _ us hl => match us, hl with | [_, _, _], _ => rfl, PySem.W.mg_of X G a11⟩
  have F12 := fun_mk (st := s_value_weights) l12 c12 k12
  have D_value_weights : DefAt K mg "value_weights" s_value_weights ["p", "many", "point", "j"] f12 _ := ⟨F12, F12.binds (ps := ["p", "many", "point", "j"]) fun _ _ _ _ _ _ us hl => match us, hl with | [_, _, _, _], _ => rfl, PySem.W.mg_of X G a12⟩
  have F13 := fun_mk (st := s_value) l13 c13 k13
  have D_value : DefAt K mg "value" s_value ["p", "form", "point", "j"] f13 _ := ⟨F13, F13.binds (ps := ["p", "form", "point", "j"]) fun _ _ _ _ _ _ us hl => match us, hl with | [_, _, _, _], _ => rfl, PySem.W.mg_of X G a13⟩
  have F14 := fun_mk (st := s_point_of) l14 c14 k14
  have D_point_of : DefAt K mg "point_of" s_point_of ["ground", "shelf"] f14 _ := ⟨F14, F14.binds (ps := ["ground", "shelf"]) fun _ _ _ _ _ _ us hl => match us, hl with | [_, _], _ => rfl, PySem.W.mg_of X G a14⟩
  have F15 := fun_mk (st := s_cell) l15 c15 k15
  have D_cell : DefAt K mg "cell" s_cell ["ground", "batch", "shelf", "j"] f15 _ := ⟨F15, F15.binds (ps := ["ground", "batch", "shelf", "j"]) fun _ _ _ _ _ _ us hl => match us, hl with | [_, _, _, _], _ => rfl, PySem.W.mg_of X G a15⟩
  have F16 := fun_mk (st := s_row) l16 c16 k16
  have D_row : DefAt K mg "row" s_row ["ground", "batch", "shelf", "many"] f16 _ := ⟨F16, F16.binds (ps := ["ground", "batch", "shelf", "many"]) fun _ _ _ _ _ _ us hl => match us, hl with | [_, _, _, _], _ => rfl, PySem.W.mg_of X G a16⟩
  have F17 := fun_mk (st := s__law_pool) l17 c17 k17
  have D__law_pool : DefAt K mg "_law_pool" s__law_pool ["script"] f17 _ := ⟨F17, F17.binds (ps := ["script"]) fun _ _ _ _ _ _ us hl => match us, hl with | [_], _ => rfl, PySem.W.mg_of X G a17⟩
  have F18 := fun_mk (st := s__law_draw) l18 c18 k18
  have D__law_draw : DefAt K mg "_law_draw" s__law_draw ["pool", "many"] f18 _ := ⟨F18, F18.binds (ps := ["pool", "many"]) fun _ _ _ _ _ _ us hl => match us, hl with | [_, _], _ => rfl, PySem.W.mg_of X G a18⟩
  have F19 := fun_mk (st := s__law_pick) l19 c19 k19
  have D__law_pick : DefAt K mg "_law_pick" s__law_pick ["pool", "things"] f19 _ := ⟨F19, F19.binds (ps := ["pool", "things"]) fun _ _ _ _ _ _ us hl => match us, hl with | [_, _], _ => rfl, PySem.W.mg_of X G a19⟩
  have F20 := fun_mk (st := s__law_turned) l20 c20 k20
  have D__law_turned : DefAt K mg "_law_turned" s__law_turned ["pool", "many"] f20 _ := ⟨F20, F20.binds (ps := ["pool", "many"]) fun _ _ _ _ _ _ us hl => match us, hl with | [_, _], _ => rfl, PySem.W.mg_of X G a20⟩
  have F21 := fun_mk (st := s__law_ground) l21 c21 k21
  have D__law_ground : DefAt K mg "_law_ground" s__law_ground ["pool", "most", "many"] f21 _ := ⟨F21, F21.binds (ps := ["pool", "most", "many"]) fun _ _ _ _ _ _ us hl => match us, hl with | [_, _, _], _ => rfl, PySem.W.mg_of X G a21⟩
  have F22 := fun_mk (st := s__law_batch) l22 c22 k22
  have D__law_batch : DefAt K mg "_law_batch" s__law_batch ["pool", "ground"] f22 _ := ⟨F22, F22.binds (ps := ["pool", "ground"]) fun _ _ _ _ _ _ us hl => match us, hl with | [_, _], _ => rfl, PySem.W.mg_of X G a22⟩
  have F23 := fun_mk (st := s__law_written_out) l23 c23 k23
  have D__law_written_out : DefAt K mg "_law_written_out" s__law_written_out ["p", "form", "point"] f23 _ := ⟨F23, F23.binds (ps := ["p", "form", "point"]) fun _ _ _ _ _ _ us hl => match us, hl with | [_, _, _], _ => rfl, PySem.W.mg_of X G a23⟩
  have F24 := fun_mk (st := s__law_moved) l24 c24 k24
  have D__law_moved : DefAt K mg "_law_moved" s__law_moved ["ground", "batch", "shift"] f24 _ := ⟨F24, F24.binds (ps := ["ground", "batch", "shift"]) fun _ _ _ _ _ _ us hl => match us, hl with | [_, _, _], _ => rfl, PySem.W.mg_of X G a24⟩
  have F25 := fun_mk (st := s_law) l25 c25 k25
  have D_law : DefAt K mg "law" s_law ["script"] fa _ := ⟨F25, F25.binds (ps := ["script"]) fun _ _ _ _ _ _ us hl => match us, hl with | [_], _ => rfl, PySem.W.mg_of X G a25⟩
  refine law_at (fd := (PySem.W.fnOf "law" "law" (defArgs s_law) (defBody s_law) (defScope s_law) .none kV25 dc25 pm25 an25 cd25 ct25)) [(c_points_fit, He.tabOf K c_points_fit), (c_batch_fault, He.tabOf K c_batch_fault)] [lamQ "points_fit", lamQ "batch_fault"] X hT q1 q2 q3 (fun s v => .of_eq rfl) fun base _ _ hTB => ?_
  have q5 := of_decide_eq_true q4
  have L_points_fit : LamAt ((([(c_points_fit, He.tabOf K c_points_fit), (c_batch_fault, He.tabOf K c_batch_fault)] : List (Addr × Addr)).map (·.2)).zip [lamQ "points_fit", lamQ "batch_fault"]) base mg "points_fit" c_points_fit (He.tabOf K c_points_fit) := ⟨hTB (c_points_fit, He.tabOf K c_points_fit) (by simp), by simp, zip_u q5 (by simp)⟩
  have L_batch_fault : LamAt ((([(c_points_fit, He.tabOf K c_points_fit), (c_batch_fault, He.tabOf K c_batch_fault)] : List (Addr × Addr)).map (·.2)).zip [lamQ "points_fit", lamQ "batch_fault"]) base mg "batch_fault" c_batch_fault (He.tabOf K c_batch_fault) := ⟨hTB (c_batch_fault, He.tabOf K c_batch_fault) (by simp), by simp, zip_u q5 (by simp)⟩
  generalize ((([(c_points_fit, He.tabOf K c_points_fit), (c_batch_fault, He.tabOf K c_batch_fault)] : List (Addr × Addr)).map (·.2)).zip [lamQ "points_fit", lamQ "batch_fault"]) = TZ at L_points_fit L_batch_fault ⊢
  have G_is_number := ok_is_number (P := l.prog) (w := w) (base := base) D_is_number T
  have G_number_between := ok_number_between (P := l.prog) (w := w) (base := base) D_number_between T G_is_number
  have G_is_prime := ok_is_prime (P := l.prog) (w := w) (base := base) D_is_prime T G_number_between
  have G_tuple_fault := ok_tuple_fault (P := l.prog) (w := w) (base := base) (TZ := TZ) D_tuple_fault T
  have G_tuple_fits := ok_tuple_fits (P := l.prog) (w := w) (base := base) (TZ := TZ) D_tuple_fits T G_tuple_fault
  have G_points_fit := ok_points_fit (P := l.prog) (w := w) (base := base) (TZ := TZ) D_points_fit C_points_fit L_points_fit T G_tuple_fits G_number_between
  have G_ground_fault := ok_ground_fault (P := l.prog) (w := w) (base := base) (TZ := TZ) D_ground_fault T G_is_prime G_number_between G_points_fit
  have G_made_ground := ok_made_ground (P := l.prog) (w := w) (base := base) (TZ := TZ) D_made_ground T G_ground_fault
  have G_batch_fault := ok_batch_fault (P := l.prog) (w := w) (base := base) (TZ := TZ) D_batch_fault C_batch_fault L_batch_fault T G_tuple_fault G_number_between
  have G_made_batch := ok_made_batch (P := l.prog) (w := w) (base := base) (TZ := TZ) D_made_batch T G_made_ground G_batch_fault
  have G_powers := ok_powers (P := l.prog) (w := w) (base := base) D_powers T
  have G_later_weights := ok_later_weights (P := l.prog) (w := w) (base := base) D_later_weights T
  have G_value_weights := ok_value_weights (P := l.prog) (w := w) (base := base) D_value_weights T G_powers G_later_weights
  have G_value := ok_value (P := l.prog) (w := w) (base := base) D_value T G_value_weights
  have G_point_of := ok_point_of (P := l.prog) (w := w) (base := base) D_point_of T G_number_between
  have G_row := ok_row (P := l.prog) (w := w) (base := base) (TZ := TZ) D_row T G_made_batch G_point_of G_number_between G_value
  have G_pool := ok__law_pool (P := l.prog) (w := w) (base := base) D__law_pool T
  have G_draw := ok__law_draw (P := l.prog) (w := w) (base := base) D__law_draw T
  have G_pick := ok__law_pick (P := l.prog) (w := w) (base := base) D__law_pick T G_draw
  have G_turned := ok__law_turned (P := l.prog) (w := w) (base := base) D__law_turned T G_draw
  have G_ground := ok__law_ground (P := l.prog) (w := w) (base := base) D__law_ground T G_draw G_pick G_turned
  have G_batch := ok__law_batch (P := l.prog) (w := w) (base := base) D__law_batch T G_draw
  have G_written := ok__law_written_out (P := l.prog) (w := w) (base := base) D__law_written_out T
  have G_moved := ok__law_moved (P := l.prog) (w := w) (base := base) D__law_moved T G_written
  have G_cellp := ok_cell (P := l.prog) (w := w) (base := base) (TZ := TZ) D_cell T G_made_batch G_point_of G_number_between G_value
  exact (ok_law (P := l.prog) (w := w) (base := base) (TZ := TZ) D_law T G_pool G_draw G_ground G_batch G_moved G_row G_cellp).ok
end Lw

open PySem PySem.W PyProof.Rows in
set_option maxRecDepth 100000 in
set_option maxHeartbeats 0 in
theorem PySem.Challenge.cw_firstsafe_k25_points_shifted_and_turned_holds : PySem.Challenge.rw_firstsafe_k25_points_shifted_and_turned.Holds := by
  w_on; o_law; k_head; (case hw => w_witness2)
  k_fill
  refine LamX.walk_ofTs (l := PySem.Challenge.rw_firstsafe_k25_points_shifted_and_turned) (n := 63) (k := 11) (x := "script") (CX := fun _ => L2.CX0) rfl (by decide) rfl ⟨rfl, by decide, by decide⟩ (fun w h Y => PySem.W.km_in_of Y) ?F (fun _ _ _ _ _ z => z)
  case F =>
    intro w mg fa h Y KX G hmg
    refine' Lw.all_mk KX G hmg (PySem.W.km_tabs_of Y) ?a0 ?l0 ?c0 ?k0 ?a1 ?l1 ?c1 ?k1 ?a2 ?l2 ?c2 ?k2 ?a3 ?l3 ?c3 ?k3 ?a4 ?l4 ?c4 ?k4 ?a5 ?l5 ?c5 ?k5 ?a6 ?l6 ?c6 ?k6 ?a7 ?l7 ?c7 ?k7 ?a8 ?l8 ?c8 ?k8 ?a9 ?l9 ?c9 ?k9 ?a10 ?l10 ?c10 ?k10 ?a11 ?l11 ?c11 ?k11 ?a12 ?l12 ?c12 ?k12 ?a13 ?l13 ?c13 ?k13 ?a14 ?l14 ?c14 ?k14 ?a15 ?l15 ?c15 ?k15 ?a16 ?l16 ?c16 ?k16 ?a17 ?l17 ?c17 ?k17 ?a18 ?l18 ?c18 ?k18 ?a19 ?l19 ?c19 ?k19 ?a20 ?l20 ?c20 ?k20 ?a21 ?l21 ?c21 ?k21 ?a22 ?l22 ?c22 ?k22 ?a23 ?l23 ?c23 ?k23 ?a24 ?l24 ?c24 ?k24 ?a25 ?l25 ?c25 ?k25 ?zb_len ?zb_int ?zb_list ?zb_tuple ?zb_range ?zb_zip ?zb_enumerate ?zb_isinstance ?zb_bool ?zb_min ?zb_sum ?zb_set ?zb_ValueError ?zc_MOST_PRIME ?zc_MOST_NUMBERS ?zc_MOST_SHELVES ?zc_MOST_CELLS ?q1 ?q2 ?q3 ?q4
    (case a0 => k_is)
    (case l0 => k_is)
    (case c0 => k_is)
    (case k0 => k_is)
    (case a1 => k_is)
    (case l1 => k_is)
    (case c1 => k_is)
    (case k1 => k_is)
    (case a2 => k_is)
    (case l2 => k_is)
    (case c2 => k_is)
    (case k2 => k_is)
    (case a3 => k_is)
    (case l3 => k_is)
    (case c3 => k_is)
    (case k3 => k_is)
    (case a4 => k_is)
    (case l4 => k_is)
    (case c4 => k_is)
    (case k4 => k_is)
    (case a5 => k_is)
    (case l5 => k_is)
    (case c5 => k_is)
    (case k5 => k_is)
    (case a6 => k_is)
    (case l6 => k_is)
    (case c6 => k_is)
    (case k6 => k_is)
    (case a7 => k_is)
    (case l7 => k_is)
    (case c7 => k_is)
    (case k7 => k_is)
    (case a8 => k_is)
    (case l8 => k_is)
    (case c8 => k_is)
    (case k8 => k_is)
    (case a9 => k_is)
    (case l9 => k_is)
    (case c9 => k_is)
    (case k9 => k_is)
    (case a10 => k_is)
    (case l10 => k_is)
    (case c10 => k_is)
    (case k10 => k_is)
    (case a11 => k_is)
    (case l11 => k_is)
    (case c11 => k_is)
    (case k11 => k_is)
    (case a12 => k_is)
    (case l12 => k_is)
    (case c12 => k_is)
    (case k12 => k_is)
    (case a13 => k_is)
    (case l13 => k_is)
    (case c13 => k_is)
    (case k13 => k_is)
    (case a14 => k_is)
    (case l14 => k_is)
    (case c14 => k_is)
    (case k14 => k_is)
    (case a15 => k_is)
    (case l15 => k_is)
    (case c15 => k_is)
    (case k15 => k_is)
    (case a16 => k_is)
    (case l16 => k_is)
    (case c16 => k_is)
    (case k16 => k_is)
    (case a17 => k_is)
    (case l17 => k_is)
    (case c17 => k_is)
    (case k17 => k_is)
    (case a18 => k_is)
    (case l18 => k_is)
    (case c18 => k_is)
    (case k18 => k_is)
    (case a19 => k_is)
    (case l19 => k_is)
    (case c19 => k_is)
    (case k19 => k_is)
    (case a20 => k_is)
    (case l20 => k_is)
    (case c20 => k_is)
    (case k20 => k_is)
    (case a21 => k_is)
    (case l21 => k_is)
    (case c21 => k_is)
    (case k21 => k_is)
    (case a22 => k_is)
    (case l22 => k_is)
    (case c22 => k_is)
    (case k22 => k_is)
    (case a23 => k_is)
    (case l23 => k_is)
    (case c23 => k_is)
    (case k23 => k_is)
    (case a24 => k_is)
    (case l24 => k_is)
    (case c24 => k_is)
    (case k24 => k_is)
    (case a25 => k_is)
    (case l25 => k_is)
    (case c25 => k_is)
    (case k25 => k_is)
    (case zb_len => k_is)
    (case zb_int => k_is)
    (case zb_list => k_is)
    (case zb_tuple => k_is)
    (case zb_range => k_is)
    (case zb_zip => k_is)
    (case zb_enumerate => k_is)
    (case zb_isinstance => k_is)
    (case zb_bool => k_is)
    (case zb_min => k_is)
    (case zb_sum => k_is)
    (case zb_set => k_is)
    (case zb_ValueError => k_is)
    (case zc_MOST_PRIME => k_is)
    (case zc_MOST_NUMBERS => k_is)
    (case zc_MOST_SHELVES => k_is)
    (case zc_MOST_CELLS => k_is)
    (case q1 => kernel_rfl)
    (case q2 => kernel_rfl)
    (case q3 => kernel_rfl)
    (case q4 => kernel_rfl)
