import PyProof.Rows.All
import Wide.All
import OpenK.AllK
import Wide.FinOn
import HandS.ForMost
import HandS.Exc
import HandS.ExcOwn
import HandS.ExcInit
import HandS.ExcField
import HandS.ExcIs
import HandS.TryOnly
import HandS.WordsExc
import HandS.IsInst
import HandS.Wide
import HandS.Codes
import KE.KExcIs
import PySem.Challenge.RW_firstsafe_k01_primes_and_inverses
set_option Elab.async false
set_option linter.all false
set_option maxRecDepth 100000
set_option maxHeartbeats 4000000
namespace Fs
open PySem PySem.Spec PyProof.Rows L2

/-! ### a def as its callers know it -/
structure Ok (P : Program) (w : World) (K : PySem.W.Frag) (mg : Str → Option Value) (base : Heap) (CX : CXT) (x : Str) (k : Nat) (ps : List Str) (sp : Sp) (f : Addr) (fd : FuncData) : Prop where
  ok : FnOk P w K mg base CX k f fd ps sp
  k : PySem.W.keepIn K (.ref f) = true
  b : Binds K fd ps []
  g : mg x = some (.ref f)
structure DefAt (K : PySem.W.Frag) (mg : Str → Option Value) (x : Str) (st : Stmt) (ps : List Str) (f : Addr) (fd : FuncData) : Prop where
  F : Fun K x x st f fd
  b : Binds K fd ps []
  g : mg x = some (.ref f)
theorem DefAt.mk' {P : Program} {w : World} {K : PySem.W.Frag} {mg : Str → Option Value} {base : Heap} {CX : CXT} {x : Str} {st : Stmt} {k : Nat} {ps : List Str} {sp : Sp} {f : Addr} {fd : FuncData} (D : DefAt K mg x st ps f fd)
    (h : FnOk P w K mg base CX k f fd ps sp) : Ok P w K mg base CX x k ps sp f fd := ⟨h, D.F.kp, D.b, D.g⟩

/-- a word between two statements -/
def Mid (P : Prop) : Prop := False ∨ P
theorem Mid.mk {P : Prop} (h : P) : Mid P := .inr h
theorem Mid.out {P : Prop} (h : Mid P) : P := h.elim (fun z => z.elim) id

/-! ### operators -/
def CMulB (i j : Int) : Prop := IntMulOk i j
theorem op_mulB {X : Cx} : OpR X (binaryOp .Mult) (rI CMulB fun i j => .int (i * j)) := opI fun _ _ _ _ _ _ _ hc q => mul_int q hc
theorem mulL {i j : Int} (h : -18446744073709551616 < i) (h2 : i < 18446744073709551616) : CMulB i j := .of_left (intBits_le_64 (by omega) (by omega))
theorem mulR {i j : Int} (h : -18446744073709551616 < j) (h2 : j < 18446744073709551616) : CMulB i j := .of_right (intBits_le_64 (by omega) (by omega))
theorem dvW {i j : Int} (h : 0 < j) (h2 : j < 18446744073709551616) : CDivW i j := wide_div (b := 64) h (by omega) (by decide) (by decide)

/-! ### heaps -/
/-- all but what stands at p and l is as it was -/
def But (p l : Addr) (H H' : Hp) : Prop := ∀ b o, b ≠ p → b ≠ l → H b = some o → H' b = some o
theorem But.refl (p l : Addr) (H : Hp) : But p l H H := fun _ _ _ _ h => h
theorem But.trans {p l : Addr} {H H1 H2 : Hp} (a : But p l H H1) (b : But p l H1 H2) : But p l H H2 := fun c o h1 h2 h => b c o h1 h2 (a c o h1 h2 h)
theorem Same.but {p l : Addr} {H H' : Hp} (a : Same H H') : But p l H H' := fun b o _ _ h => a b o h
theorem same_new {H : Hp} {p : Addr} {o : HO} (h : H p = none) : Same H (upd H p o) := fun b x e => by
  rw [upd_ne (ne_of_none e h)]
  exact e
theorem but_p {p l : Addr} {H : Hp} {o : HO} : But p l H (upd H p o) := fun b x h1 _ e => by
  rw [upd_ne h1]
  exact e
theorem but_l {p l : Addr} {H : Hp} {o : HO} : But p l H (upd H l o) := fun b x _ h1 e => by
  rw [upd_ne h1]
  exact e
theorem But.seq {K : PySem.W.Frag} {p l a : Addr} {H H' : Hp} {xs : List V} (e : But p l H H') (h1 : a ≠ p) (h2 : a ≠ l) (h : SqL K H a xs) : SqL K H' a xs := by
  rcases h with (h | ⟨o, h⟩) | h
  · exact .inl (.inl (e _ _ h1 h2 h))
  · exact .inl (.inr ⟨o, e _ _ h1 h2 h⟩)
  · exact .inr h
theorem But.seqT {K : PySem.W.Frag} {p l a : Addr} {H H' : Hp} {xs : List V} (e : But p l H H') (h1 : a ≠ p) (h2 : a ≠ l) (h : SqT K H a xs) : SqT K H' a xs := by
  rcases h with (h | ⟨o, h⟩) | h
  · exact .inl (.inl (e _ _ h1 h2 h))
  · exact .inl (.inr ⟨o, e _ _ h1 h2 h⟩)
  · exact .inr h
theorem Same.seqT {K : PySem.W.Frag} {H H' : Hp} {a : Addr} {xs : List V} (e : Same H H') (h : SqT K H a xs) : SqT K H' a xs := by
  rcases h with (h | ⟨o, h⟩) | h
  · exact .inl (.inl (e _ _ h))
  · exact .inl (.inr ⟨o, e _ _ h⟩)
  · exact .inr h

/-! ### the pool of drawn numbers -/
/-- a pool stands at p: two numbers, and the list at l of what is left of the script -/
def PoolAt (H : Hp) (p l : Addr) : Prop := ∃ (n m : Int) (xs : List Int), H p = some (.lst [.int n, .int m, .ref l]) ∧ H l = some (.lst (xs.map V.int)) ∧ p ≠ l ∧ 0 ≤ n ∧ 0 ≤ m ∧ m < 2147483648 ∧ xs.length ≤ 100
theorem PoolAt.same {H H' : Hp} {p l : Addr} (h : PoolAt H p l) (s : Same H H') : PoolAt H' p l := by
  obtain ⟨n, m, xs, h1, h2, r⟩ := h
  exact ⟨n, m, xs, s _ _ h1, s _ _ h2, r⟩
theorem PoolAt.ne {H : Hp} {p l t : Addr} (h : PoolAt H p l) (ht : H t = none) : t ≠ p ∧ t ≠ l := by
  obtain ⟨n, m, xs, h1, h2, r⟩ := h
  exact ⟨(ne_of_none h1 ht).symm, (ne_of_none h2 ht).symm⟩
def spPool (K : PySem.W.Frag) : Sp := fun vs H Q _ => ∃ (a : Addr) (ns : List Int), vs = [.ref a] ∧ SqL K H a (ns.map V.int) ∧ ns.length ≤ 63 ∧
  ∀ (H' : Hp) (p l : Addr), Same H H' → H p = none → H l = none → PoolAt H' p l → Q (.ref p) H'
def spDraw : Sp := fun vs H Q _ => ∃ (p l : Addr) (many : Int), vs = [.ref p, .int many] ∧ PoolAt H p l ∧ 1 ≤ many ∧ many < 4611686018427387904 ∧
  ∀ (v : Int) (H' : Hp), 0 ≤ v → v < many → PoolAt H' p l → But p l H H' → Q (.int v) H'
def spPick (K : PySem.W.Frag) : Sp := fun vs H Q _ => ∃ (p l t : Addr) (xs : List V), vs = [.ref p, .ref t] ∧ PoolAt H p l ∧ t ≠ p ∧ t ≠ l ∧ SqL K H t xs ∧ 1 ≤ xs.length ∧ xs.length ≤ 1000 ∧
  ∀ (x : V) (H' : Hp), x ∈ xs → PoolAt H' p l → But p l H H' → Q x H'

/-! ### whole numbers -/
/-- values whose kind is told: no number, a truth value, a number, a text, a tuple, a list -/
def Kn (K : PySem.W.Frag) (H : Hp) (v : V) : Prop := v = .non ∨ (∃ b, v = .bl b) ∨ (∃ i, v = .int i) ∨ (∃ s, v = .str s) ∨ (∃ a xs, v = .ref a ∧ H a = some (.tup xs)) ∨ ∃ a xs, v = .ref a ∧ H a = some (.lst xs)
def wholeV : V → Bool
  | .int _ => true
  | _ => false
def spWhole (K : PySem.W.Frag) : Sp := fun vs H Q _ => ∃ v, vs = [v] ∧ Kn K H v ∧ Q (.bl (wholeV v)) H
/-- isinstance(v, int), isinstance(v, bool) -/
def isIntV : V → Bool
  | .int _ => true
  | .bl _ => true
  | _ => false
def isBoolV : V → Bool
  | .bl _ => true
  | _ => false
theorem isi_int {K : PySem.W.Frag} {H : Hp} {v : V} (h : Kn K H v) : ∃ t, TyX K H v t ∧ PySem.W.kitOne K t (.type "int") = some (isIntV v) ∧ PySem.W.kitOne K t (.type "bool") = some (isBoolV v) := by
  rcases h with rfl | ⟨b, rfl⟩ | ⟨i, rfl⟩ | ⟨s, rfl⟩ | ⟨a, xs, rfl, ha⟩ | ⟨a, xs, rfl, ha⟩
  · exact ⟨_, .base .non, kit_ty (r := false) (by decide +kernel), kit_ty (r := false) (by decide +kernel)⟩
  · exact ⟨_, .base (.bl _), kit_ty (r := true) (by decide +kernel), kit_ty (r := true) (by decide +kernel)⟩
  · exact ⟨_, .base (.int _), kit_ty (r := true) (by decide +kernel), kit_ty (r := false) (by decide +kernel)⟩
  · exact ⟨_, .base (.str _), kit_ty (r := false) (by decide +kernel), kit_ty (r := false) (by decide +kernel)⟩
  · exact ⟨_, .base (.tup ha), kit_ty (r := false) (by decide +kernel), kit_ty (r := false) (by decide +kernel)⟩
  · exact ⟨_, .base (.lst ha), kit_ty (r := false) (by decide +kernel), kit_ty (r := false) (by decide +kernel)⟩

/-! ### lists -/
theorem list_new {α : Type} : ∀ xs : List α, xs = [] ∨ ∃ x r, xs = x :: r
  | [] => .inl rfl
  | x :: r => .inr ⟨x, r, rfl⟩
theorem dp_ints {K : PySem.W.Frag} {H : Hp} : ∀ xs : List Int, DpAll K H (xs.map V.int) (xs.map PyData.int)
  | [] => .nil
  | _ :: r => .cons (.int _) (dp_ints r)
theorem shaped_nil : SeqAt.shaped (.list []) = true := by decide +kernel
theorem can_ints : ∀ xs : List Int, PyData.canLayAll0 (xs.map PyData.int) = true
  | [] => by simp [PyData.canLayAll0]
  | x :: r => by
    rw [List.map_cons, PyData.canLayAll0, can_ints r]
    rfl
theorem depth_ints : ∀ xs : List Int, PyData.depthAll (xs.map PyData.int) ≤ 1
  | [] => by simp [PyData.depthAll]
  | x :: r => by
    have h := depth_ints r
    rw [List.map_cons, PyData.depthAll]
    simp only [PyData.depth]
    omega
theorem shaped_ints (xs : List Int) : SeqAt.shaped (.list (xs.map PyData.int)) = true := by
  have h1 : (PyData.list (xs.map PyData.int)).canLay0 = true := by
    rw [PyData.canLay0]
    exact can_ints xs
  have h2 := depth_ints xs
  unfold SeqAt.shaped
  rw [h1]
  refine decide_eq_true ?_
  simp only [PyData.depth]
  omega
theorem shaped_intsT (xs : List Int) : SeqAt.shaped (.tuple (xs.map PyData.int)) = true := by
  have h1 : (PyData.tuple (xs.map PyData.int)).canLay0 = true := by
    rw [PyData.canLay0]
    exact can_ints xs
  have h2 := depth_ints xs
  unfold SeqAt.shaped
  rw [h1]
  refine decide_eq_true ?_
  simp only [PyData.depth]
  omega
theorem eqv_nil_nil : (!PyData.eqv (.list (([] : List Int).map PyData.int)) (.list [])) = false := by decide +kernel
theorem eqv_cons_nil {x : Int} {r : List Int} : (!PyData.eqv (.list ((x :: r).map PyData.int)) (.list [])) = true := by
  rw [List.map_cons, PyData.eqv, PyData.eqvAll]
  rfl
theorem cut_one (xs : List V) : cutV xs (some 1) none = xs.drop 1 := by
  have h1 : HT.sIx xs.length 0 (some 1) = min 1 xs.length := HT.sIx_nat xs.length 0 1
  unfold cutV
  rw [h1, HT.sIx_none]
  rcases list_new xs with rfl | ⟨x, r, rfl⟩
  · rfl
  · have h2 : min 1 (x :: r).length = 1 := by
      rw [List.length_cons]
      omega
    rw [h2, List.length_cons]
    show List.take (r.length + 1 - 1) r = r
    rw [Nat.add_sub_cancel, List.take_length]
end Fs

namespace Fs
open PySem PySem.Spec PyProof.Rows L2
/-! ### primes -/
def NoDiv (n : Int) : Prop := ∀ d : Int, 2 ≤ d → d * d ≤ n → n % d ≠ 0
def PrimeV : V → Prop
  | .int n => 2 ≤ n ∧ n ≤ 65521 ∧ NoDiv n
  | _ => False
theorem sq_lt {d n : Int} (h : d * d ≤ n) (hn : n < 65536) (h0 : 0 ≤ d) : d < 256 := by
  refine Int.not_le.mp fun q => ?_
  have := Int.mul_le_mul q q (by omega) h0
  omega
theorem sq_le {d e : Int} (h0 : 0 ≤ e) (h : e ≤ d) : e * e ≤ d * d := Int.mul_le_mul h h h0 (by omega)
theorem mod_of_sub {n d : Int} : n - n / d * d = n % d := by
  rw [Int.emod_def, Int.mul_comm]
def betV (lo hi : Int) : V → Bool
  | .int n => decide (lo ≤ n) && decide (n ≤ hi)
  | _ => false
def spBetween (K : PySem.W.Frag) : Sp := fun vs H Q _ => ∃ (v : V) (lo hi : Int), vs = [v, .int lo, .int hi] ∧ Kn K H v ∧ Q (.bl (betV lo hi v)) H
def spIsPrime (K : PySem.W.Frag) : Sp := fun vs H Q _ => ∃ (v : V), vs = [v] ∧ Kn K H v ∧ ∀ b : Bool, (b = true ↔ PrimeV v) → Q (.bl b) H
theorem kn_int {K : PySem.W.Frag} {H : Hp} (i : Int) : Kn K H (.int i) := .inr (.inr (.inl ⟨i, rfl⟩))
theorem kn_bl {K : PySem.W.Frag} {H : Hp} (i : Bool) : Kn K H (.bl i) := .inr (.inl ⟨i, rfl⟩)
theorem kn_str {K : PySem.W.Frag} {H : Hp} (i : Str) : Kn K H (.str i) := .inr (.inr (.inr (.inl ⟨i, rfl⟩)))
theorem kn_tup {K : PySem.W.Frag} {H : Hp} {a : Addr} {xs : List V} (h : H a = some (.tup xs)) : Kn K H (.ref a) := .inr (.inr (.inr (.inr (.inl ⟨a, xs, rfl, h⟩))))
theorem Kn.same {K : PySem.W.Frag} {H H' : Hp} {v : V} (h : Kn K H v) (s : Same H H') : Kn K H' v := by
  rcases h with h | h | h | h | ⟨a, xs, h1, h2⟩ | ⟨a, xs, h1, h2⟩
  · exact .inl h
  · exact .inr (.inl h)
  · exact .inr (.inr (.inl h))
  · exact .inr (.inr (.inr (.inl h)))
  · exact .inr (.inr (.inr (.inr (.inl ⟨a, xs, h1, s _ _ h2⟩))))
  · exact .inr (.inr (.inr (.inr (.inr ⟨a, xs, h1, s _ _ h2⟩))))
end Fs

namespace Fs
open PySem PySem.Spec PyProof.Rows L2
/-! ### errors of the package, made and caught -/
/-- isinstance(e, c), e the caught exception at a of the class at C, its dict at d -/
def rIsD (K : PySem.W.Frag) (C a : Addr) (cls : Value) (d : Option Addr) : List V → Hp → VK → Prop := fun xs H Q => ∃ (c : V) (cv : Value) (b : Bool) (dd : Addr) (fs : List (Str × V)), xs = [.ref a, c] ∧ (∀ u, RelV c u → u = cv) ∧ cls = .ref C ∧ d = some dd ∧ H dd = some (.xd fs) ∧ PySem.W.kitOne K (.ref C) cv = some b ∧ Q (.bl b) H
theorem isSome_of_hasDict {K : PySem.W.Frag} {C : Addr} (h : PySem.W.hasDictIn K C = true) : (PySem.W.clsIn K C).isSome = true := by
  obtain ⟨cd, hc, _⟩ := PySem.W.any_some h
  rw [hc]
  rfl
theorem call_isD {X : Cx} {a C : Addr} {oe : Obj} {cls : Value} {d : Option Addr} {pn : List (Addr × Obj)} (T : ExcC X.K C) (hz : Zc cls d oe) (hf : ∃ vs, oe.data = .fields vs) : CallR (X.suite a ((a, oe) :: pn)) (.builtin "isinstance") (rIsD X.K C a cls d) := by
  intro pins s σ H xs us Q I r h
  obtain ⟨c, cv, b, dd, fs, rfl, hcv, rfl, rfl, hd, e, q⟩ := h
  cases r with
  | cons rx rr =>
    cases rr with
    | cons rt rr =>
      cases rr
      cases rx
      have ec := hcv _ rt
      subst ec
      obtain ⟨hget, _⟩ := I.pin (a, oe) (List.mem_append.mpr (.inl List.mem_cons_self))
      obtain ⟨vs, hv⟩ := hf
      obtain ⟨mA, hns, hr⟩ : ObjOk X.prog X.w H s.heap dd (.xd fs) := I.hok dd _ hd
      obtain ⟨od, ho, hl⟩ := lookIn_ns hns
      have J : PySem.W.InstAt s.heap a oe C (some od) := ⟨hget, hz.1, by unfold PySem.W.notCls; rw [hv] <;> rfl, by rw [hz.2]; exact ho⟩
      exact PySem.W.kia_one (PySem.W.kitx_exc (isSome_of_hasDict T.hd) T.hg T.hk T.hs T.ha T.hn T.ht T.hm) I.kIn J e (fun z => nomatch z) fun tk => ⟨.bl b, H, I.kept (t' := tk) fun _ _ z => z, rfl, q⟩
/-- what the written part says of an error class x at C; fI: its __init__, CR: the base class of all -/
structure ErrC (K : PySem.W.Frag) (mg : Str → Option Value) (x : Str) (C fI CR : Addr) : Prop where
  T : OexC K C
  iC : PySem.W.findIn K (.ref C) "__init__" = some (some (.ref fI))
  tI : PySem.W.typeIn K (.ref fI) = some (.type "function")
  g : mg x = some (.ref C)
  nW : PySem.W.findIn K (.ref C) "what" = some none
  X : ExcC K C
  XF : XfC K C
  te : PySem.W.exmOne K (.ref C) (.ref C) = some true
  isR : PySem.W.kitOne K (.ref C) (.ref CR) = some true
  isV : PySem.W.kitOne K (.ref C) (.type "ValueError") = some true
/-- the __init__ of the base class: self.what = what -/
def spErrInit (K : PySem.W.Frag) : Sp := fun vs H Q _ => ∃ (a C : Addr) (y : V), vs = [.ref a, y] ∧ OexC K C ∧ PySem.W.findIn K (.ref C) "what" = some none ∧ H a = some (exo a C none) ∧
  ∀ dx, H dx = none → dx ≠ a → Q .non (upd (upd H dx (exd dx [("what", y)])) a (exo a C (some dx)))
theorem heap_made {H : Hp} {a d : Addr} {o1 o2 o3 o4 : HO} (ha : H a = none) (hd : d ≠ a) : upd (del (upd (upd (upd H a o1) d o2) a o3) a) d o4 = upd H d o4 := by
  funext b
  by_cases h1 : b = d
  · subst h1
    rw [upd_same, upd_same]
  · rw [upd_ne h1, upd_ne h1]
    by_cases h2 : b = a
    · subst h2
      rw [del_same, ha]
    · rw [del_ne h2, upd_ne h2, upd_ne h1, upd_ne h2]
/-- the reading of X(e) is done by this: an error with its dict, new -/
theorem made_err {K : PySem.W.Frag} {mg : Str → Option Value} {x : Str} {C fI CR : Addr} (E : ErrC K mg x C fI CR) {H : Hp} {y : V} {Q : XK} (q : ∀ d, H d = none → Q (.ref C) (some d) (upd H d (.xd [("what", y)]))) :
    [y].length ≤ 1000 ∧ ∀ a, H a = none → spErrInit K (.ref a :: ([y] ++ [])) (upd H a (exo a C none))
      (fun v H2 => v = .non ∧ ∃ (d : Addr) (fs : List (Str × V)), H2 a = some (exo a C (some d)) ∧ H2 d = some (exd d fs) ∧ H d = none ∧ Q (.ref C) (some d) (upd (del H2 a) d (.xd fs))) (fun _ _ _ => False) := by
  refine ⟨by show 1 ≤ 1000; decide, fun a ha => ⟨a, C, y, rfl, E.T, E.nW, upd_same, fun dx hdx hne => ⟨rfl, dx, [("what", y)], upd_same, ?_, ?_, ?_⟩⟩⟩
  · rw [upd_ne hne, upd_same]
  · rw [upd_ne hne] at hdx
    exact hdx
  · rw [heap_made ha hne]
    rw [upd_ne hne] at hdx
    exact q dx hdx
/-- the suite of the laws' try: the pair ('refused', e.what) -/
def tSuiteR (K : PySem.W.Frag) (C CR : Addr) (i : Nat) : Addr → Value → Option Addr → TS := fun a cls d =>
  tRet (tIf (tAnd (tB (tCB (rIsD K C a cls d) (tCons (tVar i) (tCons (tC (.ref CR)) tNil)))) (tB (tCB (rIsD K C a cls d) (tCons (tVar i) (tCons (tC (.ty "ValueError")) tNil)))))
    (tTup (tCons (tC (.str "refused")) (tCons (tXf a cls d C "what" (tVar i)) tNil))) (tTup (tCons (tC (.str "odd")) (tCons (tC (.int 0)) tNil))))
theorem suiteR {K : PySem.W.Frag} {mg : Str → Option Value} {x : Str} {C fI CR a d : Addr} (E : ErrC K mg x C fI CR) {D : Ends} {σ : L2.St} {H : Hp} {i : Nat} {y : V} (hi : σ[i]? = some (some (V.ref a))) (hd : H d = some (.xd [("what", y)]))
    (q : ∀ p, H p = none → D.rt (.ref p) (upd H p (.tup [.str "refused", y]))) : tSuiteR K C CR i a (.ref C) (some d) D σ H := by
  refine ⟨_, hi, _, _, true, d, _, rfl, fun u r => r, rfl, rfl, hd, E.isR, true, rfl, ?_⟩
  refine iteT ?_
  refine ⟨_, hi, _, _, true, d, _, rfl, fun u r => r, rfl, rfl, hd, E.isV, true, rfl, ?_⟩
  refine iteT ?_
  refine ⟨_, hi, rfl, rfl, d, _, y, rfl, hd, rfl, ?_⟩
  exact ⟨by show 2 ≤ sizeLine; decide, fun p hp => q p hp⟩
end Fs

namespace Fs
open PySem PySem.Spec PyProof.Rows L2
/-! ### the inverse of a number modulo a prime -/
theorem nodiv_small {n : Int} (h : n < 65536) (hd : ∀ d : _root_.Fin 256, 2 ≤ d.val → d.val * d.val ≤ n.toNat → n % (d.val : Int) ≠ 0) : NoDiv n := fun d d2 hdn => by
  have h1 := sq_lt hdn h (by omega)
  have e : ((d.toNat : Nat) : Int) = d := by omega
  have e2 : ((d.toNat * d.toNat : Nat) : Int) = d * d := by rw [Int.natCast_mul, e]
  have z := hd ⟨d.toNat, by omega⟩ (by show 2 ≤ d.toNat; omega) (by show d.toNat * d.toNat ≤ n.toNat; omega)
  rw [← e]
  exact z
theorem prime_gcd {p r : Int} (p2 : 2 ≤ p) (hp : NoDiv p) (r0 : 0 < r) (r1 : r < p) : Int.gcd p r = 1 := by
  have g1 : ((Int.gcd p r : Nat) : Int) ∣ p := Int.gcd_dvd_left ..
  have g2 : ((Int.gcd p r : Nat) : Int) ∣ r := Int.gcd_dvd_right ..
  have g0 : 0 < Int.gcd p r := Int.gcd_pos_of_ne_zero_right _ (by omega)
  generalize Int.gcd p r = g at g1 g2 g0
  by_cases h : g = 1
  · exact h
  · exfalso
    have gr : (g : Int) ≤ r := Int.le_of_dvd r0 g2
    obtain ⟨q, hq⟩ := g1
    have q0 : 0 < q := by
      refine Int.not_le.mp fun z => ?_
      have := Int.mul_nonpos_of_nonneg_of_nonpos (show (0 : Int) ≤ (g : Int) by omega) z
      omega
    have q2 : 2 ≤ q := by
      refine Int.not_lt.mp fun z => ?_
      have e : q = 1 := by omega
      rw [e, Int.mul_one] at hq
      omega
    rcases Int.le_total (g : Int) q with hl | hl
    · have := Int.mul_le_mul_of_nonneg_left hl (show (0 : Int) ≤ (g : Int) by omega)
      refine hp g (by omega) (by omega) ?_
      rw [hq]
      exact Int.mul_emod_right _ _
    · have := Int.mul_le_mul_of_nonneg_right hl (show (0 : Int) ≤ q by omega)
      refine hp q q2 (by omega) ?_
      rw [hq]
      exact Int.mul_emod_left _ _
/-- what holds between the turns of Euclid's loop -/
structure Euc (a p left rest before found : Int) : Prop where
  r0 : 0 < rest
  r1 : rest < left
  r2 : left ≤ p
  co : Int.gcd left rest = 1
  dl : p ∣ before * a - left
  dr : p ∣ found * a - rest
theorem Euc.start {a p : Int} (p2 : 2 ≤ p) (hp : NoDiv p) (h : a % p ≠ 0) : Euc a p p (a % p) 0 1 where
  r0 := by have := Int.emod_nonneg a (show p ≠ 0 by omega); omega
  r1 := Int.emod_lt_of_pos a (by omega)
  r2 := Int.le_refl p
  co := prime_gcd p2 hp (by have := Int.emod_nonneg a (show p ≠ 0 by omega); omega) (Int.emod_lt_of_pos a (by omega))
  dl := ⟨-1, by omega⟩
  dr := ⟨a / p, by have := Int.emod_add_mul_ediv a p; omega⟩
theorem Euc.step {a p left rest before found : Int} (E : Euc a p left rest before found) (h : 1 < rest) : Euc a p rest (left - left / rest * rest) found (before - left / rest * found) := by
  have e : left - left / rest * rest = left % rest := mod_of_sub
  have m0 := Int.emod_nonneg left (show rest ≠ 0 by omega)
  have m1 := Int.emod_lt_of_pos left (show 0 < rest by omega)
  have co : Int.gcd rest (left % rest) = 1 := by
    rw [← e, Int.gcd_sub_mul_right_right, Int.gcd_comm, E.co]
  refine ⟨?_, by omega, by have := E.r1; have := E.r2; omega, by rw [e]; exact co, E.dr, ?_⟩
  · rw [e]
    refine Int.not_le.mp fun z => ?_
    have z2 : left % rest = 0 := by omega
    rw [z2, Int.gcd_zero_right] at co
    omega
  · obtain ⟨x, hx⟩ := E.dl
    obtain ⟨y, hy⟩ := E.dr
    refine ⟨x - left / rest * y, ?_⟩
    have e1 : (before - left / rest * found) * a = before * a - left / rest * (found * a) := by rw [Int.sub_mul, Int.mul_assoc]
    have e2 : found * a = p * y + rest := by omega
    have e3 : before * a = p * x + left := by omega
    rw [e1, e2, e3, Int.mul_sub, Int.mul_add, ← Int.mul_assoc p, Int.mul_comm p (left / rest), Int.mul_assoc]
    omega
theorem Euc.done {a p left rest before found : Int} (E : Euc a p left rest before found) (p2 : 2 ≤ p) (h : ¬ 1 < rest) : (found % p * a - 1) % p = 0 := by
  have e : rest = 1 := by have := E.r0; omega
  obtain ⟨y, hy⟩ := E.dr
  have e2 : found * a = p * y + 1 := by omega
  have e3 := Int.emod_add_mul_ediv found p
  have e4 : found % p = found - p * (found / p) := by omega
  rw [e4, Int.sub_mul, e2]
  have e5 : p * y + 1 - p * (found / p) * a - 1 = p * (y - found / p * a) := by
    rw [Int.mul_sub, Int.mul_assoc]
    omega
  rw [e5]
  exact Int.mul_emod_right _ _
def spInverse (C : Addr) : Sp := fun vs H Q E => ∃ (a p : Int), vs = [.int a, .int p] ∧ 2 ≤ p ∧ p ≤ 65521 ∧ NoDiv p ∧
  (a % p = 0 → ∀ d : Addr, H d = none → E (.ref C) (some d) (upd H d (.xd [("what", .int a)]))) ∧
  (a % p ≠ 0 → ∀ b : Int, 0 ≤ b → b < p → (b * a - 1) % p = 0 → ∀ H', Same H H' → Q (.int b) H')

/-! ### binomials -/
def bin : Nat → Nat → Int
  | _, 0 => 1
  | 0, _ + 1 => 0
  | n + 1, k + 1 => bin n k + bin n (k + 1)
theorem bin_zero (n : Nat) : bin n 0 = 1 := by cases n <;> rfl
theorem bin_above : ∀ (n k : Nat), n < k → bin n k = 0
  | 0, 0, h => by omega
  | 0, _ + 1, _ => rfl
  | _ + 1, 0, h => by omega
  | n + 1, k + 1, h => by
    show bin n k + bin n (k + 1) = 0
    rw [bin_above n k (by omega), bin_above n (k + 1) (by omega)]
    rfl
theorem bin_self : ∀ n : Nat, bin n n = 1
  | 0 => rfl
  | n + 1 => by
    show bin n n + bin n (n + 1) = 1
    rw [bin_self n, bin_above n (n + 1) (by omega)]
    rfl
theorem bin_step : ∀ (n k : Nat), bin n (k + 1) * ((k : Int) + 1) = bin n k * ((n : Int) - (k : Int))
  | 0, 0 => by
    show (0 : Int) * _ = 1 * _
    omega
  | 0, k + 1 => by
    show (0 : Int) * _ = 0 * _
    rw [Int.zero_mul, Int.zero_mul]
  | n + 1, 0 => by
    have h := bin_step n 0
    show (bin n 0 + bin n 1) * _ = bin (n + 1) 0 * _
    rw [bin_zero, bin_zero] at *
    have h2 : bin n (0 + 1) = bin n 1 := rfl
    rw [h2] at h
    omega
  | n + 1, k + 1 => by
    have h1 := bin_step n k
    have h2 := bin_step n (k + 1)
    show (bin n (k + 1) + bin n (k + 1 + 1)) * (((k + 1 : Nat) : Int) + 1) = (bin n k + bin n (k + 1)) * (((n + 1 : Nat) : Int) - ((k + 1 : Nat) : Int))
    have e1 : ((k + 1 : Nat) : Int) = (k : Int) + 1 := by omega
    have e2 : ((n + 1 : Nat) : Int) = (n : Int) + 1 := by omega
    rw [e1] at h2 ⊢
    rw [e2, Int.add_mul, h2, Int.add_mul, show (n : Int) + 1 - ((k : Int) + 1) = (n : Int) - (k : Int) by omega, ← h1, Int.mul_sub, Int.mul_sub, Int.mul_add, Int.mul_add]
    omega
theorem bin_next {n k : Nat} (h : k < n) : bin n k * ((n : Int) - (k : Int)) / ((k : Int) + 1) = bin n (k + 1) := by
  rw [← bin_step]
  exact Int.mul_ediv_cancel _ (by omega)
def spChoose (K : PySem.W.Frag) : Sp := fun vs H Q _ => ∃ (n j : Nat) (p : Int), vs = [.int n, .int j, .int p] ∧ n ≤ 99 ∧ 2 ≤ p ∧ ∀ H', Same H H' → Q (.int (bin n j % p)) H'
def spWays : Sp := fun vs H Q _ => ∃ (n j : Nat), vs = [.int n, .int j] ∧ n ≤ 99 ∧ j ≤ 1000 ∧ Q (.int (bin n j)) H
/-- a row of the triangle modulo p -/
def triRow (p : Int) (n : Nat) : List Int := (List.range (n + 1)).map fun k => bin n k % p
def triIn (p : Int) (n i : Nat) : List Int := (List.range i).map fun k => bin (n + 1) (k + 1) % p
theorem triRow_len (p : Int) (n : Nat) : (triRow p n).length = n + 1 := by
  unfold triRow
  rw [List.length_map, List.length_range]
theorem triRow_get {p : Int} {n k : Nat} (h : k ≤ n) : (triRow p n)[k]? = some (bin n k % p) := by
  unfold triRow
  rw [List.getElem?_map, List.getElem?_range (by omega)]
  rfl
theorem triIn_len (p : Int) (n i : Nat) : (triIn p n i).length = i := by
  unfold triIn
  rw [List.length_map, List.length_range]
theorem triIn_succ (p : Int) (n i : Nat) : triIn p n (i + 1) = triIn p n i ++ [(bin n i % p + bin n (i + 1) % p) % p] := by
  unfold triIn
  rw [List.range_succ, List.map_append]
  show _ ++ [(bin n i + bin n (i + 1)) % p] = _
  rw [Int.add_emod]
theorem triRow_next {p : Int} (h : 2 ≤ p) (n : Nat) : [(1 : Int)] ++ triIn p n n ++ [1] = triRow p (n + 1) := by
  have o : (1 : Int) % p = 1 := Int.emod_eq_of_lt (by omega) (by omega)
  unfold triRow triIn
  rw [List.range_succ_eq_map, List.map_cons, bin_zero, o, List.range_succ, List.map_append, List.map_append, List.map_map]
  show (1 : Int) :: ((List.range n).map _ ++ [1]) = 1 :: ((List.range n).map _ ++ [bin (n + 1) (n + 1) % p])
  rw [bin_self, o]
  rfl
theorem triRow_zero {p : Int} (h : 2 ≤ p) : [(1 : Int)] = triRow p 0 := by
  have o : (1 : Int) % p = 1 := Int.emod_eq_of_lt (by omega) (by omega)
  show [(1 : Int)] = [bin 0 0 % p]
  rw [bin_zero, o]
end Fs
namespace Fs
open PySem PySem.Spec PyProof.Rows L2
/-- a comprehension over zip of two lists, n the lesser length -/
theorem lc_zipN {K : PySem.W.Frag} {a b : Addr} {xs ys : List V} {g : TG} {tt : TT} {te : TE} {vs : List Nat} {σ : L2.St} {H1 : Hp} {D : Addr} {Qd : Hp → Prop} (n : Nat) (hx : n ≤ xs.length) (hy : n ≤ ys.length) (hn : n = xs.length ∨ n = ys.length) (Pv : Nat → Hp → Prop) (h0 : Pv 0 (upd H1 D (.lst [])))
    (hq : ∀ i H, Pv i H → SqL K H a xs ∧ SqL K H b ys)
    (hs : ∀ i x y T H, xs[i]? = some x → ys[i]? = some y → Pv i H → H T = none → g (.ref T) (wipe σ vs) (upd H T (.tup [x, y])) fun σ2 H2 => wipe σ2 vs = wipe σ vs ∧ tt σ2 H2 fun k H3 =>
      if k = true then te σ2 H3 fun z H4 => ∃ acc, H4 D = some (.lst acc) ∧ acc.length < sizeLine ∧ Pv (i + 1) (upd H4 D (.lst (acc ++ [z]))) else Pv (i + 1) H3) (hd : ∀ H, Pv n H → Qd H) :
    ∃ W : Nat → Nat → Hp → Prop, (∃ m, W 0 m (upd H1 D (.lst []))) ∧ ∀ i m H, W i m H →
      ((Itz K a b).stop i H ∧ Qd H) ∨ ((Itz K a b).go i H ∧ ∃ Nx : Hp → Prop, (∀ H', Nx H' → ∃ m', m' < m ∧ W (i + 1) m' H') ∧ ∀ x H', (Itz K a b).yld i H x H' → g x (wipe σ vs) H' fun σ2 H2 => wipe σ2 vs = wipe σ vs ∧ tt σ2 H2 fun k H3 =>
        if k = true then te σ2 H3 fun z H4 => ∃ acc, H4 D = some (.lst acc) ∧ acc.length < sizeLine ∧ Nx (upd H4 D (.lst (acc ++ [z]))) else Nx H3) := by
  refine ⟨fun i m H => m = n - i ∧ i ≤ n ∧ Pv i H, ⟨n, rfl, Nat.zero_le _, h0⟩, ?_⟩
  rintro i m H ⟨rfl, hi, p⟩
  obtain ⟨qx, qy⟩ := hq i H p
  by_cases hlt : i < n
  · refine .inr ⟨⟨xs, ys, _, _, qx, qy, List.getElem?_eq_getElem (Nat.lt_of_lt_of_le hlt hx), List.getElem?_eq_getElem (Nat.lt_of_lt_of_le hlt hy)⟩, Pv (i + 1), fun H' p' => ⟨n - (i + 1), by omega, rfl, hlt, p'⟩, fun v H' y => ?_⟩
    obtain ⟨T, x', y', rfl, hT, rfl, f1, f2⟩ := y
    exact hs i x' y' T H (f1 xs qx) (f2 ys qy) p hT
  · have e : i = n := by omega
    subst e
    refine .inl ⟨⟨xs, ys, qx, qy, ?_⟩, hd H p⟩
    rcases hn with h | h
    · exact .inl (by omega)
    · exact .inr (by omega)
theorem shaped_ref (i : Int) : SeqAt.shaped (.tuple [.str "refused", .int i]) = true := by
  have h0 : PyData.strOk "refused" = true := by decide +kernel
  have h1 : (PyData.tuple [.str "refused", .int i]).canLay0 = true := by
    simp [PyData.canLay0, PyData.canLayAll0, h0]
  have h2 : (PyData.tuple [.str "refused", .int i]).depth ≤ 64 := by
    simp [PyData.depth, PyData.depthAll]
  unfold SeqAt.shaped
  rw [h1, decide_eq_true h2]
  rfl
theorem eqv_ref (s : Str) (i : Int) : PyData.eqv (.tuple [.str s, .int i]) (.tuple [.str s, .int i]) = true := by
  simp [PyData.eqv, PyData.eqvAll]
def spInverted : Sp := fun vs H Q _ => ∃ (a p : Int), vs = [.int a, .int p] ∧ 2 ≤ p ∧ p ≤ 65521 ∧ NoDiv p ∧
  (a % p = 0 → ∀ t H', Same H H' → H' t = some (.tup [.str "refused", .int a]) → Q (.ref t) H') ∧
  (a % p ≠ 0 → ∀ (b : Int) t H', 0 ≤ b → b < p → (b * a - 1) % p = 0 → Same H H' → H' t = some (.tup [.int b]) → Q (.ref t) H')
def spInvRight : Sp := fun vs H Q _ => ∃ (a p : Int), vs = [.int a, .int p] ∧ 2 ≤ p ∧ p ≤ 65521 ∧ NoDiv p ∧ ∀ H', Same H H' → Q (.bl true) H'
end Fs

namespace Lw
open PySem PySem.Spec PyProof.Rows L2 Fs
local macro_rules | `(tactic| walk_at "side") => `(tactic| (first | (exact mulL (by omega) (by omega)) | (exact mulR (by omega) (by omega)) | (exact dvW (by omega) (by omega)) | (show (0 : Int) < _; omega) | (exact ⟨by decide, by decide, by decide⟩)))
local macro_rules | `(tactic| walk_at "rd1") => `(tactic| (first | (refine ⟨_, rfl, ?_⟩) | (refine ⟨_, _, rfl, rfl, ?_⟩) | (refine ⟨rfl, ?_⟩) | (refine ⟨_, _, rfl, ?_⟩) | (refine .inl ⟨_, rfl, ?_⟩) | (refine And.intro (by first | assumption | walk_at "side") ?_) | (refine ⟨_, rfl, (by assumption), ?_⟩) | (refine ⟨_, _, _, _, rfl, rfl, SqL.of (by assumption), rfl, ?_⟩) | (refine ⟨_, _, _, _, rfl, rfl, SqL.of upd_same, rfl, ?_⟩) | (refine ⟨_, _, _, _, rfl, rfl, (by assumption), rfl, ?_⟩) | (refine ⟨_, _, _, _, rfl, rfl, upd_same, rfl, ?_⟩) | (refine ⟨_, _, rfl, .inl (by assumption), ?_⟩) | (refine ⟨_, _, rfl, .inl (SqL.of (by assumption)), ?_⟩) | (refine ⟨_, _, rfl, .inr (SqT.of (by assumption)), ?_⟩) | (refine ⟨_, _, _, _, rfl, rfl, SqT.of (by assumption), rfl, ?_⟩) | (refine ⟨_, _, _, _, _, rfl, .ty _, (by assumption), (by assumption), ?_⟩) | (refine ⟨.inl ⟨rfl, _, SqL.of (by assumption)⟩, ?_⟩)))
local macro_rules | `(tactic| walk_at "rd") => `(tactic| (repeat walk_at "rd1"))

def topS (i : Nat) : Stmt := PySem.Challenge.pw_firstsafe_k01_primes_and_inverses.main.body.getD i (.Pass ⟨0, 0, 0, 0⟩)
abbrev s_is_number : Stmt := topS 4
abbrev N_is_number : List Str := ["thing"]
theorem sc_is_number : FnScope N_is_number ["thing"] (defScope s_is_number) := ⟨rfl, rfl, rfl, by decide +kernel, rfl, by decide +kernel, by decide +kernel⟩
abbrev s_number_between : Stmt := topS 5
abbrev N_number_between : List Str := ["thing", "least", "most"]
theorem sc_number_between : FnScope N_number_between ["thing", "least", "most"] (defScope s_number_between) := ⟨rfl, rfl, rfl, by decide +kernel, rfl, by decide +kernel, by decide +kernel⟩
abbrev s_is_prime : Stmt := topS 8
abbrev N_is_prime : List Str := ["n", "divisor"]
theorem sc_is_prime : FnScope N_is_prime ["n"] (defScope s_is_prime) := ⟨rfl, rfl, rfl, by decide +kernel, rfl, by decide +kernel, by decide +kernel⟩
abbrev s_inverse : Stmt := topS 9
abbrev N_inverse : List Str := ["a", "p", "left", "rest", "before", "found", "turns"]
theorem sc_inverse : FnScope N_inverse ["a", "p"] (defScope s_inverse) := ⟨rfl, rfl, rfl, by decide +kernel, rfl, by decide +kernel, by decide +kernel⟩
abbrev s_choose : Stmt := topS 10
abbrev N_choose : List Str := ["n", "j", "p", "ways", "_", "a", "b"]
theorem sc_choose : FnScope N_choose ["n", "j", "p"] (defScope s_choose) := ⟨rfl, rfl, rfl, by decide +kernel, rfl, by decide +kernel, by decide +kernel⟩
abbrev s__law_pool : Stmt := topS 12
abbrev N__law_pool : List Str := ["script", "first", "size"]
theorem sc__law_pool : FnScope N__law_pool ["script"] (defScope s__law_pool) := ⟨rfl, rfl, rfl, by decide +kernel, rfl, by decide +kernel, by decide +kernel⟩
abbrev s__law_draw : Stmt := topS 13
abbrev N__law_draw : List Str := ["pool", "many", "cell", "size", "found"]
theorem sc__law_draw : FnScope N__law_draw ["pool", "many"] (defScope s__law_draw) := ⟨rfl, rfl, rfl, by decide +kernel, rfl, by decide +kernel, by decide +kernel⟩
abbrev s__law_pick : Stmt := topS 14
abbrev N__law_pick : List Str := ["pool", "things"]
theorem sc__law_pick : FnScope N__law_pick ["pool", "things"] (defScope s__law_pick) := ⟨rfl, rfl, rfl, by decide +kernel, rfl, by decide +kernel, by decide +kernel⟩
abbrev s__law_is_whole : Stmt := topS 15
abbrev N__law_is_whole : List Str := ["thing"]
theorem sc__law_is_whole : FnScope N__law_is_whole ["thing"] (defScope s__law_is_whole) := ⟨rfl, rfl, rfl, by decide +kernel, rfl, by decide +kernel, by decide +kernel⟩
abbrev s__law_is_prime : Stmt := topS 16
abbrev N__law_is_prime : List Str := ["n", "divisor"]
theorem sc__law_is_prime : FnScope N__law_is_prime ["n"] (defScope s__law_is_prime) := ⟨rfl, rfl, rfl, by decide +kernel, rfl, by decide +kernel, by decide +kernel⟩
abbrev s__law_primes_right : Stmt := topS 17
abbrev N__law_primes_right : List Str := ["pool", "prime", "things", "thing", "told"]
theorem sc__law_primes_right : FnScope N__law_primes_right ["pool"] (defScope s__law_primes_right) := ⟨rfl, rfl, rfl, by decide +kernel, rfl, by decide +kernel, by decide +kernel⟩
abbrev s__law_inverted : Stmt := topS 18
abbrev N__law_inverted : List Str := ["a", "p", "e"]
theorem sc__law_inverted : FnScope N__law_inverted ["a", "p"] (defScope s__law_inverted) := ⟨rfl, rfl, rfl, by decide +kernel, rfl, by decide +kernel, by decide +kernel⟩
abbrev s__law_inverse_right : Stmt := topS 19
abbrev N__law_inverse_right : List Str := ["a", "p", "told"]
theorem sc__law_inverse_right : FnScope N__law_inverse_right ["a", "p"] (defScope s__law_inverse_right) := ⟨rfl, rfl, rfl, by decide +kernel, rfl, by decide +kernel, by decide +kernel⟩
abbrev s__law_ways : Stmt := topS 20
abbrev N__law_ways : List Str := ["n", "j", "found", "at"]
theorem sc__law_ways : FnScope N__law_ways ["n", "j"] (defScope s__law_ways) := ⟨rfl, rfl, rfl, by decide +kernel, rfl, by decide +kernel, by decide +kernel⟩
abbrev s_law : Stmt := topS 21
abbrev N_law : List Str := ["script", "pool", "p", "a", "turn", "n", "j", "told"]
theorem sc_law : FnScope N_law ["script"] (defScope s_law) := ⟨rfl, rfl, rfl, by decide +kernel, rfl, by decide +kernel, by decide +kernel⟩
abbrev s_Refused___init__ : Stmt := inClass (topS 1) 0
theorem sc_Refused___init__ : FnScope ["self", "what"] ["self", "what"] (defScope s_Refused___init__) := ⟨rfl, rfl, rfl, by decide +kernel, rfl, by decide +kernel, by decide +kernel⟩
structure Txt (K : PySem.W.Frag) (mg : Str → Option Value) : Prop where
  b_len : mg "len" = none
  b_int : mg "int" = none
  b_list : mg "list" = none
  b_range : mg "range" = none
  b_zip : mg "zip" = none
  b_isinstance : mg "isinstance" = none
  b_bool : mg "bool" = none
  b_min : mg "min" = none
  b_ValueError : mg "ValueError" = none
  c_MOST_PRIME : ∃ t, mg "MOST_PRIME" = some (.int 65521 t)
section
variable {P : Program} {w : World} {K : PySem.W.Frag} {mg : Str → Option Value} {base : Heap}
theorem ok__law_is_whole {f : Addr} {fd : FuncData} (D : DefAt K mg "_law_is_whole" s__law_is_whole ["thing"] f fd) (T : Txt K mg) : Ok P w K mg base CX0 "_law_is_whole" 1 ["thing"] (spWhole K) f fd := by
  refine D.mk' (D.F.ok sc__law_is_whole (fun vs H Q E h => ?_) (fun cdv A outer s H vs Q E hr h => ?_))
  · obtain ⟨v, rfl, _⟩ := h
    rfl
  · obtain ⟨v, rfl, hk, q⟩ := h
    obtain ⟨t, ht, k1, k2⟩ := isi_int hk
    refine ⟨_, pss_one (ps_ret (pe_and (pe_callB call_isi rfl T.b_isinstance (by decide +kernel) (pa_cons (pv 0) (pa_cons (pe_bltn (v := .ty "int") (u := .type "int") rfl T.b_int (by decide +kernel) rfl) pa_nil))) (pe_one (pe_not (pe_callB call_isi rfl T.b_isinstance (by decide +kernel) (pa_cons (pv 0) (pa_cons (pe_bltn (v := .ty "bool") (u := .type "bool") rfl T.b_bool (by decide +kernel) rfl) pa_nil))))))), ?_⟩
    walk_at "rd"
    refine ite2 (fun e => ?_) (fun e => ?_)
    · walk_at "rd"
      cases v <;> first | exact q | cases e
    · cases v <;> first | exact q | exact absurd rfl e
theorem seq0 {α : Type} (x : α) (r : List α) : seqIndex? 0 (x :: r).length = some 0 := by
  unfold seqIndex?
  simp
theorem ok__law_draw {f : Addr} {fd : FuncData} (D : DefAt K mg "_law_draw" s__law_draw ["pool", "many"] f fd) (T : Txt K mg) : Ok P w K mg base CX0 "_law_draw" 1 ["pool", "many"] spDraw f fd := by
  refine D.mk' (D.F.ok sc__law_draw (fun vs H Q E h => ?_) (fun cdv A outer s H vs Q E hr h => ?_))
  · obtain ⟨p, l, many, rfl, _⟩ := h
    rfl
  · obtain ⟨p, l, many, rfl, ⟨n, m, xs, hp, hl, npl, n0, m0, m1, hx⟩, h1, h2, q⟩ := h
    refine ⟨_, C8.pss_cut (ps_if (PW.pt (pw_and (pt_cmpR op_eq (pe_ix ix_list (pv 0) pe_int (fun _ _ => rfl)) pe_int (nomark _)) (pw_and1 (pt_cmpR (op_neD hr.units) (pe_ix ix_list (pv 0) pe_int (fun _ _ => rfl)) (pe_lst pa_nil) (nomark _))))) (pss_cons (ps_set (i := 2) sc__law_draw.nd rfl (Or.inl rfl) (pe_callTy call_int1 rfl T.b_int (by decide +kernel) (pa_cons (pe_bm PySem.F.plainAttrs_list PySem.F.slot_list_pop PySem.F.type_list_pop mt_popAt (pe_ix ix_list (pv 0) pe_int (fun _ _ => rfl)) (pa_cons pe_int pa_nil)) pa_nil)))
      (C8.pss_cut (ps_set (i := 3) sc__law_draw.nd rfl (Or.inl rfl) (pe_ifExp (pt_cmpR op_ge (pv 2) pe_int (nomark _)) (pe_op op_mulB pe_int (pv 2)) (pe_op op_sub (pe_un un_neg pe_int) (pe_op op_mulB pe_int (pv 2)))))
      (C8.pss_cut (ps_asg (pe_ifExp (pt_cmpR op_ge (pv 3) (pe_op op_pow pe_int pe_int) (nomark _)) (pv 3) pe_int) (pg_sub (pv 0) pe_int set_list))
      (pss_one (ps_asg (pe_op op_add (pe_op op_mod (pe_callTy call_int1 rfl T.b_int (by decide +kernel) (pa_cons (pe_op op_add (pe_ix ix_list (pv 0) pe_int (fun _ _ => rfl)) (pe_op op_mulB (pv 3) pe_int)) pa_nil)) pe_int) pe_int) (pg_sub (pv 0) pe_int set_list)))))) (pss_nil))
      (pss_cons (ps_if (pt_cmpR op_gt (pe_ix ix_list (pv 0) pe_int (fun _ _ => rfl)) pe_int (nomark _)) (pss_cons (ps_set (i := 4) sc__law_draw.nd rfl (Or.inl rfl) (pe_op op_mod (pe_callTy call_int1 rfl T.b_int (by decide +kernel) (pa_cons (pe_ix ix_list (pv 0) pe_int (fun _ _ => rfl)) pa_nil)) (pv 1)))
      (pss_cons (ps_asg (pe_op op_fdivW (pe_ix ix_list (pv 0) pe_int (fun _ _ => rfl)) (pv 1)) (pg_sub (pv 0) pe_int set_list))
      (pss_one (ps_ret (pv 4))))) (pss_nil))
      (pss_cons (ps_asg (pe_op op_mod (pe_callTy call_int1 rfl T.b_int (by decide +kernel) (pa_cons (pe_op op_add (pe_op op_mulB (pe_ix ix_list (pv 0) pe_int (fun _ _ => rfl)) pe_int) pe_int) pa_nil)) pe_int) (pg_sub (pv 0) pe_int set_list))
      (pss_one (ps_ret (pe_op op_mod (pe_op op_fdivW (pe_op op_mod (pe_callTy call_int1 rfl T.b_int (by decide +kernel) (pa_cons (pe_op op_mulB (pe_ix ix_list (pv 0) pe_int (fun _ _ => rfl)) (pe_ix ix_list (pv 0) pe_int (fun _ _ => rfl))) pa_nil)) pe_int) pe_int) (pv 1)))))), ?_⟩
    refine ⟨fun σ' H1 => Mid (∃ y2 y3, σ' = [some (.ref p), some (.int many), y2, y3, none] ∧ PoolAt H1 p l ∧ But p l H H1), ?_, ?_⟩
    · walk_at "rd"
      refine ite2 (fun e => ?_) (fun e => ?_)
      · walk_at "rd"
        refine ⟨Nat.zero_le _, fun z hz => ?_⟩
        have nzp : p ≠ z := ne_of_none hp hz
        have nzl : l ≠ z := ne_of_none hl hz
        have hp1 : upd H z (.lst []) p = some (.lst [.int n, .int m, .ref l]) := by rw [upd_ne nzp]; exact hp
        have hl1 : upd H z (.lst []) l = some (.lst (xs.map V.int)) := by rw [upd_ne nzl]; exact hl
        refine ⟨.list (xs.map PyData.int), .list [], .lst (SqL.of hl1) (dp_ints xs), .lst (SqL.of upd_same) .nil, shaped_ints xs, shaped_nil, ?_⟩
        walk_at "rd"
        rcases list_new xs with rfl | ⟨x, r, rfl⟩
        · rw [eqv_nil_nil]
          exact iteF (Mid.mk ⟨none, none, rfl, ⟨n, m, [], hp1, hl1, npl, n0, m0, m1, hx⟩, Same.but (same_new hz)⟩)
        · rw [eqv_cons_nil]
          refine iteT ?_
          walk_at "rd"
          refine ⟨_, _, _, 0, V.int x, rfl, rfl, hl1, by decide, by decide, seq0 _ _, rfl, ?_⟩
          walk_at "rd"
          have hp2 : upd (upd H z (.lst [])) l (.lst (r.map V.int)) p = some (.lst [.int n, .int m, .ref l]) := by rw [upd_ne npl]; exact hp1
          have hl2 : upd (upd H z (.lst [])) l (.lst (r.map V.int)) l = some (.lst (r.map V.int)) := upd_same
          have hb2 : But p l H (upd (upd H z (.lst [])) l (.lst (r.map V.int))) := (Same.but (same_new hz)).trans but_l
          have hx2 : r.length ≤ 100 := by rw [List.length_cons] at hx; omega
          refine ⟨fun σ' H' => ∃ sz : Int, 0 ≤ sz ∧ σ' = [some (.ref p), some (.int many), some (.int x), some (.int sz), none] ∧ H' = upd (upd H z (.lst [])) l (.lst (r.map V.int)), ?_, ?_⟩
          · walk_at "rd"
            refine ite2 (fun e => ?_) (fun e => ?_)
            · have e1 : (0 : Int) ≤ x := of_decide_eq_true e
              walk_at "rd"
              exact ⟨2 * x, by omega, rfl, rfl⟩
            · have e1 : ¬ (0 : Int) ≤ x := fun q => e (decide_eq_true q)
              walk_at "rd"
              exact ⟨-1 - 2 * x, by omega, rfl, rfl⟩
          · rintro σ' H' ⟨sz, hsz, rfl, rfl⟩
            generalize upd (upd H z (.lst [])) l (.lst (r.map V.int)) = H2 at hp2 hl2 hb2
            refine ⟨fun σ' H3 => ∃ n3 : Int, 0 ≤ n3 ∧ σ' = [some (.ref p), some (.int many), some (.int x), some (.int sz), none] ∧ H3 = upd H2 p (.lst [.int n3, .int m, .ref l]), ?_, ?_⟩
            · walk_at "rd"
              refine ite2 (fun e => ?_) (fun e => ?_)
              · walk_at "rd"
                exact ⟨sz, hsz, rfl, rfl⟩
              · walk_at "rd"
                exact ⟨0, Int.le_refl 0, rfl, rfl⟩
            · rintro σ' H3 ⟨n3, hn3, rfl, rfl⟩
              walk_at "rd"
              refine Mid.mk ⟨_, _, rfl, ⟨n3, _, r, upd_same, ?_, npl, hn3, ?_, ?_, hx2⟩, (hb2.trans but_p).trans but_p⟩
              · rw [upd_ne npl.symm, upd_ne npl.symm]
                exact hl2
              · have := Int.emod_nonneg (m + sz * 69621) (show (2147483629 : Int) ≠ 0 by decide)
                omega
              · have := Int.emod_lt_of_pos (m + sz * 69621) (show (0 : Int) < 2147483629 by decide)
                omega
      · exact iteF (Mid.mk ⟨none, none, rfl, ⟨n, m, xs, hp, hl, npl, n0, m0, m1, hx⟩, But.refl _ _ _⟩)
    · intro σ' H1 mm
      obtain ⟨y2, y3, rfl, ⟨n, m, xs, hp, hl, npl, n0, m0, m1, hx⟩, hB⟩ := mm.out
      walk_at "rd"
      refine ite2 (fun e => ?_) (fun e => ?_)
      · have e1 : (0 : Int) < n := of_decide_eq_true e
        walk_at "rd"
        refine q _ _ (Int.emod_nonneg _ (by omega)) (Int.emod_lt_of_pos _ (by omega)) ⟨n / many, m, xs, upd_same, ?_, npl, Int.ediv_nonneg n0 (by omega), m0, m1, hx⟩ (hB.trans but_p)
        rw [upd_ne npl.symm]
        exact hl
      · walk_at "rd"
        have b1 := Int.emod_nonneg (m * 48271 + 11) (show (2147483647 : Int) ≠ 0 by decide)
        have b2 := Int.emod_lt_of_pos (m * 48271 + 11) (show (0 : Int) < 2147483647 by decide)
        walk_at "rd"
        refine q _ _ (Int.emod_nonneg _ (by omega)) (Int.emod_lt_of_pos _ (by omega)) ⟨n, (m * 48271 + 11) % 2147483647, xs, upd_same, ?_, npl, n0, b1, by omega, hx⟩ (hB.trans but_p)
        rw [upd_ne npl.symm]
        exact hl
end

section
variable {P : Program} {w : World} {K : PySem.W.Frag} {mg : Str → Option Value} {base : Heap}
theorem ok__law_pool {f : Addr} {fd : FuncData} (D : DefAt K mg "_law_pool" s__law_pool ["script"] f fd) (T : Txt K mg) : Ok P w K mg base CX0 "_law_pool" 1 ["script"] (spPool K) f fd := by
  refine D.mk' (D.F.ok sc__law_pool (fun vs H Q E h => ?_) (fun cdv A outer s H vs Q E hr h => ?_))
  · obtain ⟨a, ns, rfl, _⟩ := h
    rfl
  · obtain ⟨a, ns, rfl, hS, h63, q⟩ := h
    refine ⟨_, C8.pss_cut (ps_set (i := 1) sc__law_pool.nd rfl (Or.inl rfl) (pe_ifExp (pt_cmpR op_gt (pe_callB call_len_seq rfl T.b_len PySem.boot_len (pa_cons (pv 0) pa_nil)) pe_int (nomark _)) (pe_callTy call_int1 rfl T.b_int (by decide +kernel) (pa_cons (pe_ix ix_list (pv 0) pe_int (fun _ _ => rfl)) pa_nil)) pe_int))
      (C8.pss_cut (ps_set (i := 2) sc__law_pool.nd rfl (Or.inl rfl) (pe_ifExp (pt_cmpR op_ge (pv 1) pe_int (nomark _)) (pe_op op_mulB pe_int (pv 1)) (pe_op op_sub (pe_un un_neg pe_int) (pe_op op_mulB pe_int (pv 1)))))
      (pss_one (ps_ret (pe_lst (pa_cons (pe_ifExp (pt_cmpR op_ge (pv 2) (pe_op op_pow pe_int pe_int) (nomark _)) (pv 2) pe_int) (pa_cons (pe_op op_add (pe_op op_mod (pe_callTy call_int1 rfl T.b_int (by decide +kernel) (pa_cons (pe_op op_add (pe_op op_mulB (pv 2) pe_int) pe_int) pa_nil)) pe_int) pe_int) (pa_cons (pe_callTy call_list_of rfl T.b_list (by decide +kernel) (pa_cons (pe_slice sl_list (pv 0) (po_some pe_int) po_none) pa_nil)) pa_nil))))))), ?_⟩
    refine ⟨fun σ' H' => Mid (∃ x : Int, σ' = [some (.ref a), some (.int x), none] ∧ H' = H), ?_, ?_⟩
    · walk_at "rd"
      refine ite2 (fun e => ?_) (fun e => ?_)
      · rcases list_new ns with rfl | ⟨x, r, rfl⟩
        · exact absurd e (by decide)
        · walk_at "rd"
          refine ⟨_, _, _, V.int x, rfl, rfl, hS, atI_nat (j := 0) rfl, ?_⟩
          walk_at "rd"
          exact .mk ⟨x, rfl, rfl⟩
      · walk_at "rd"
        exact .mk ⟨0, rfl, rfl⟩
    · intro σ' H' m
      obtain ⟨x, rfl, rfl⟩ := m.out
      refine ⟨fun σ' H3 => Mid (∃ sz : Int, 0 ≤ sz ∧ σ' = [some (.ref a), some (.int x), some (.int sz)] ∧ H3 = H'), ?_, ?_⟩
      · walk_at "rd"
        refine ite2 (fun e => ?_) (fun e => ?_)
        · have e1 : (0 : Int) ≤ x := of_decide_eq_true e
          walk_at "rd"
          exact .mk ⟨2 * x, by omega, rfl, rfl⟩
        · have e1 : ¬ (0 : Int) ≤ x := fun q => e (decide_eq_true q)
          walk_at "rd"
          exact .mk ⟨-1 - 2 * x, by omega, rfl, rfl⟩
      · intro σ' H3 m
        obtain ⟨sz, hsz, rfl, rfl⟩ := m.out
        have b1 := Int.emod_nonneg (sz * 48271 + 1009) (show (2147483629 : Int) ≠ 0 by decide)
        have b2 := Int.emod_lt_of_pos (sz * 48271 + 1009) (show (0 : Int) < 2147483629 by decide)
        have fin : ∀ (n : Int) (c l p : Addr), 0 ≤ n → H3 c = none → upd H3 c (.lst (cutV (ns.map V.int) (some 1) none)) l = none → upd (upd H3 c (.lst (cutV (ns.map V.int) (some 1) none))) l (.lst (cutV (ns.map V.int) (some 1) none)) p = none →
            Q (.ref p) (upd (upd (upd H3 c (.lst (cutV (ns.map V.int) (some 1) none))) l (.lst (cutV (ns.map V.int) (some 1) none))) p (.lst [.int n, .int ((sz * 48271 + 1009) % 2147483629 + 3), .ref l])) := by
          intro n c l p hn hc hl hp
          have s1 := same_new (o := .lst (cutV (ns.map V.int) (some 1) none)) hc
          have s2 := s1.trans (same_new (o := .lst (cutV (ns.map V.int) (some 1) none)) hl)
          have npl : p ≠ l := fun z => by
            rw [z, upd_same] at hp
            cases hp
          refine q _ p l (s2.trans (same_new hp)) (s2.free hp) (s1.free hl) ⟨n, _, ns.drop 1, upd_same, ?_, npl, hn, by omega, by omega, ?_⟩
          · rw [upd_ne npl.symm, upd_same, cut_one, List.map_drop]
          · rw [List.length_drop]
            omega
        walk_at "rd"
        refine ite2 (fun e => ?_) (fun e => ?_)
        · walk_at "rd"
          exact ⟨_, _, rfl, hS, fun c hc => ⟨_, _, rfl, .inl (SqL.of upd_same), fun l hl => ⟨(by show 3 ≤ sizeLine; decide), fun p hp => fin sz c l p hsz hc hl hp⟩⟩⟩
        · walk_at "rd"
          exact ⟨_, _, rfl, hS, fun c hc => ⟨_, _, rfl, .inl (SqL.of upd_same), fun l hl => ⟨(by show 3 ≤ sizeLine; decide), fun p hp => fin 0 c l p (Int.le_refl 0) hc hl hp⟩⟩⟩
theorem ok__law_pick {f fD : Addr} {fd fdD : FuncData} (D : DefAt K mg "_law_pick" s__law_pick ["pool", "things"] f fd) (T : Txt K mg) (G__law_draw : Ok P w K mg base CX0 "_law_draw" 1 ["pool", "many"] spDraw fD fdD) : Ok P w K mg base CX0 "_law_pick" 2 ["pool", "things"] (spPick K) f fd := by
  refine D.mk' (D.F.ok sc__law_pick (fun vs H Q E h => ?_) (fun cdv A outer s H vs Q E hr h => ?_))
  · obtain ⟨p, l, t, xs, rfl, _⟩ := h
    rfl
  · obtain ⟨p, l, t, xs, rfl, hP, htp, htl, hS, h1, h2, q⟩ := h
    refine ⟨_, pss_one (ps_ret (pe_ix ix_list (pv 1) (pe_call G__law_draw.ok (hr.mono (by decide)) rfl G__law_draw.g G__law_draw.k G__law_draw.b .nil pass0 (pa_cons (pv 0) (pa_cons (pe_callB call_len_seq rfl T.b_len PySem.boot_len (pa_cons (pv 1) pa_nil)) pa_nil))) (fun _ _ => rfl))), ?_⟩
    walk_at "rd"
    refine ⟨p, l, _, rfl, hP, by omega, by omega, fun v H' v0 v1 hP' hB => ?_⟩
    have hS' := hB.seq htp htl hS
    have hv : v.toNat < xs.length := by omega
    have ev : v = ((v.toNat : Nat) : Int) := by omega
    refine ⟨_, _, _, xs[v.toNat], rfl, rfl, hS', ?_, ?_⟩
    · have z : atI xs ((v.toNat : Nat) : Int) = some xs[v.toNat] := atI_nat (List.getElem?_eq_getElem hv)
      rw [← ev] at z
      exact z
    · exact q _ _ (List.getElem_mem hv) hP' hB
theorem ok_is_number {f : Addr} {fd : FuncData} (D : DefAt K mg "is_number" s_is_number ["thing"] f fd) (T : Txt K mg) : Ok P w K mg base CX0 "is_number" 1 ["thing"] (spWhole K) f fd := by
  refine D.mk' (D.F.ok sc_is_number (fun vs H Q E h => ?_) (fun cdv A outer s H vs Q E hr h => ?_))
  · obtain ⟨v, rfl, _⟩ := h
    rfl
  · obtain ⟨v, rfl, hk, q⟩ := h
    obtain ⟨t, ht, k1, k2⟩ := isi_int hk
    refine ⟨_, pss_one (ps_ret (pe_and (pe_callB call_isi rfl T.b_isinstance (by decide +kernel) (pa_cons (pv 0) (pa_cons (pe_bltn (v := .ty "int") (u := .type "int") rfl T.b_int (by decide +kernel) rfl) pa_nil))) (pe_one (pe_not (pe_callB call_isi rfl T.b_isinstance (by decide +kernel) (pa_cons (pv 0) (pa_cons (pe_bltn (v := .ty "bool") (u := .type "bool") rfl T.b_bool (by decide +kernel) rfl) pa_nil))))))), ?_⟩
    walk_at "rd"
    refine ite2 (fun e => ?_) (fun e => ?_)
    · walk_at "rd"
      cases v <;> first | exact q | cases e
    · cases v <;> first | exact q | exact absurd rfl e
theorem ok_number_between {f f1 : Addr} {fd fd1 : FuncData} (D : DefAt K mg "number_between" s_number_between ["thing", "least", "most"] f fd) (T : Txt K mg) (G_is_number : Ok P w K mg base CX0 "is_number" 1 ["thing"] (spWhole K) f1 fd1) :
    Ok P w K mg base CX0 "number_between" 2 ["thing", "least", "most"] (spBetween K) f fd := by
  refine D.mk' (D.F.ok sc_number_between (fun vs H Q E h => ?_) (fun cdv A outer s H vs Q E hr h => ?_))
  · obtain ⟨v, lo, hi, rfl, _⟩ := h
    rfl
  · obtain ⟨v, lo, hi, rfl, hk, q⟩ := h
    refine ⟨_, pss_one (ps_ret (pe_and (pe_call G_is_number.ok (hr.mono (by decide)) rfl G_is_number.g G_is_number.k G_is_number.b .nil pass0 (pa_cons (pv 0) pa_nil)) (pe_one (pe_chain op_le op_le (pv 1) (pv 0) (pv 2))))), ?_⟩
    walk_at "rd"
    refine ite2 (fun e => ?_) (fun e => ?_)
    · cases v with
      | int n =>
        walk_at "rd"
        refine ite2 (fun e => ?_) (fun e => ?_)
        · walk_at "rd"
          have q2 : Q (.bl (decide (lo ≤ n) && decide (n ≤ hi))) H := q
          rw [e, Bool.true_and] at q2
          exact q2
        · have q2 : Q (.bl (decide (lo ≤ n) && decide (n ≤ hi))) H := q
          have e2 : decide (lo ≤ n) = false := by simpa using e
          rw [e2, Bool.false_and] at q2
          exact q2
      | _ => cases e
    · cases v with
      | int n => exact absurd rfl e
      | _ => exact q
theorem ok_is_prime {f f1 : Addr} {fd fd1 : FuncData} (D : DefAt K mg "is_prime" s_is_prime ["n"] f fd) (T : Txt K mg) (G_number_between : Ok P w K mg base CX0 "number_between" 2 ["thing", "least", "most"] (spBetween K) f1 fd1) :
    Ok P w K mg base CX0 "is_prime" 3 ["n"] (spIsPrime K) f fd := by
  refine D.mk' (D.F.ok sc_is_prime (fun vs H Q E h => ?_) (fun cdv A outer s H vs Q E hr h => ?_))
  · obtain ⟨v, rfl, _⟩ := h
    rfl
  · obtain ⟨v, rfl, hk, q⟩ := h
    obtain ⟨_, h_MOST_PRIME⟩ := T.c_MOST_PRIME
    refine ⟨_, pss_cons (ps_if (pt_not (pt_val (pe_call G_number_between.ok (hr.mono (by decide)) rfl G_number_between.g G_number_between.k G_number_between.b .nil pass0 (pa_cons (pv 0) (pa_cons pe_int (pa_cons (pe_glob (v := .int 65521) rfl h_MOST_PRIME ⟨_, rfl⟩) pa_nil)))))) (pss_one (ps_ret pe_bl)) (pss_nil))
      (pss_cons (ps_set (i := 1) sc_is_prime.nd rfl (Or.inl rfl) pe_int)
      (pss_cons (ps_while PassesOwn.never (pt_cmpR op_le (pe_op op_mulB (pv 1) (pv 1)) (pv 0) (nomark _)) (pss_cons (ps_if (pt_cmpR op_eq (pe_op op_mod (pv 0) (pv 1)) pe_int (nomark _)) (pss_one (ps_ret pe_bl)) (pss_nil))
      (pss_one (ps_aug (i := 1) sc_is_prime.nd rfl (Or.inl rfl) pe_int ip_add))))
      (pss_one (ps_ret pe_bl)))), ?_⟩
    walk_at "rd"
    refine ⟨v, 2, 65521, rfl, hk, ?_⟩
    walk_at "rd"
    refine ite2 (fun e => ?_) (fun e => ?_)
    · refine q false ⟨fun z => (Bool.noConfusion z), fun z => ?_⟩
      cases v with
      | int n =>
        obtain ⟨z1, z2, _⟩ := z
        have e2 : betV 2 65521 (.int n) = true := by
          show (decide (2 ≤ n) && decide (n ≤ 65521)) = true
          rw [decide_eq_true z1, decide_eq_true z2]
          rfl
        rw [e2] at e
        cases e
      | _ => exact z.elim
    · cases v with
      | int n =>
        have e2 : betV 2 65521 (.int n) = true := by simpa using e
        have e3 : (decide (2 ≤ n) && decide (n ≤ 65521)) = true := e2
        rw [Bool.and_eq_true, decide_eq_true_eq, decide_eq_true_eq] at e3
        obtain ⟨n2, n3⟩ := e3
        walk_at "rd"
        refine ⟨fun m σ' H' => ∃ d : Int, 2 ≤ d ∧ d ≤ 70000 ∧ σ' = [some (.int n), some (.int d)] ∧ H' = H ∧ (∀ e, 2 ≤ e → e < d → n % e ≠ 0) ∧ m = (70000 - d).toNat, ⟨_, 2, by omega, by omega, rfl, rfl, fun e h1 h2 => by omega, rfl⟩, ?_⟩
        rintro m σ' H' ⟨d, d2, d3, rfl, rfl, hd, rfl⟩
        walk_at "rd"
        refine ite2 (fun e => ?_) (fun e => ?_)
        · have ed : d * d ≤ n := of_decide_eq_true e
          have d256 := sq_lt ed (by omega) (by omega)
          refine ⟨fun σ' H2 => Mid (σ' = [some (.int n), some (.int (d + 1))] ∧ H2 = H' ∧ n % d ≠ 0), fun σ' H2 m => ?_, ?_⟩
          · obtain ⟨rfl, rfl, hm⟩ := m.out
            exact ⟨_, by omega, d + 1, by omega, by omega, rfl, rfl, fun e h1 h2 => if h : e = d then h ▸ hm else hd e h1 (by omega), rfl⟩
          · walk_at "rd"
            refine ite2 (fun e => ?_) (fun e => ?_)
            · have em : n % d = 0 := V.int.inj (of_decide_eq_true e)
              exact q false ⟨fun z => Bool.noConfusion z, fun z => absurd em (z.2.2 d d2 ed)⟩
            · walk_at "rd"
              exact .mk ⟨rfl, rfl, fun z => e (by rw [show ((fun i j => V.int (i % j)) n d : V) = V.int (n % d) from rfl, z]; rfl)⟩
        · have ed : ¬ d * d ≤ n := fun z => e (decide_eq_true z)
          refine q true ⟨fun _ => ⟨n2, n3, fun a a2 ha => ?_⟩, fun _ => rfl⟩
          by_cases had : a < d
          · exact hd a a2 had
          · have := sq_le (by omega : (0 : Int) ≤ d) (by omega : d ≤ a)
            omega
      | _ => exact absurd rfl e
theorem ok__law_is_prime {f f1 : Addr} {fd fd1 : FuncData} (D : DefAt K mg "_law_is_prime" s__law_is_prime ["n"] f fd) (T : Txt K mg) (G__law_is_whole : Ok P w K mg base CX0 "_law_is_whole" 1 ["thing"] (spWhole K) f1 fd1) :
    Ok P w K mg base CX0 "_law_is_prime" 2 ["n"] (spIsPrime K) f fd := by
  refine D.mk' (D.F.ok sc__law_is_prime (fun vs H Q E h => ?_) (fun cdv A outer s H vs Q E hr h => ?_))
  · obtain ⟨v, rfl, _⟩ := h
    rfl
  · obtain ⟨v, rfl, hk, q⟩ := h
    refine ⟨_, pss_cons (ps_if (PW.pt (pw_or (pt_not (pt_val (pe_call G__law_is_whole.ok (hr.mono (by decide)) rfl G__law_is_whole.g G__law_is_whole.k G__law_is_whole.b .nil pass0 (pa_cons (pv 0) pa_nil)))) (pw_or1 (pt_not (pt_chain op_le op_le pe_int (pv 0) pe_int))))) (pss_one (ps_ret pe_bl)) (pss_nil))
      (pss_cons (ps_for PassesOwn.never rfl (pi_range2 rfl T.b_range (pa_cons pe_int (pa_cons pe_int pa_nil))) (pg_name (i := 1) sc__law_is_prime.nd rfl (Or.inl rfl)) (pss_cons (ps_if (pt_cmpR op_gt (pe_op op_mulB (pv 1) (pv 1)) (pv 0) (nomark _)) (pss_one (ps_ret pe_bl)) (pss_nil))
      (pss_one (ps_if (pt_cmpR op_eq (pe_op op_sub (pv 0) (pe_op op_mulB (pe_op op_fdivW (pv 0) (pv 1)) (pv 1))) pe_int (nomark _)) (pss_one (ps_ret pe_bl)) (pss_nil)))))
      (pss_one (ps_ret pe_bl))), ?_⟩
    cases v with
    | int n =>
      walk_at "rd"
      refine ite2 (fun e => ?_) (fun e => ?_)
      · have n2 : 2 ≤ n := of_decide_eq_true e
        walk_at "rd"
        refine ite2 (fun e => ?_) (fun e => ?_)
        · refine q false ⟨fun z => Bool.noConfusion z, fun z => ?_⟩
          rw [decide_eq_true z.2.1] at e
          cases e
        · have n3 : n ≤ 65521 := by simpa using e
          walk_at "rd"
          refine for_range (lo := 2) (n := 254) (fun i σ' H' => ∃ y, σ' = [some (.int n), y] ∧ H' = H ∧ ∀ d : Int, 2 ≤ d → d < 2 + (i : Int) → n % d ≠ 0) ⟨_, rfl, rfl, fun d h1 h2 => by omega⟩ ?_ ?_
          · rintro i σ' H' hi ⟨y, rfl, rfl, hd⟩
            walk_at "rd"
            refine ite2 (fun e => ?_) (fun e => ?_)
            · have e1 : n < (2 + (i : Int)) * (2 + (i : Int)) := of_decide_eq_true e
              refine q true ⟨fun _ => ⟨n2, n3, fun d d2 hdn => ?_⟩, fun _ => rfl⟩
              refine hd d d2 (Int.not_le.mp fun z => ?_)
              have := sq_le (by omega : (0 : Int) ≤ 2 + (i : Int)) z
              omega
            · have e1 : ¬ n < (2 + (i : Int)) * (2 + (i : Int)) := fun z => e (decide_eq_true z)
              walk_at "rd"
              refine ite2 (fun e => ?_) (fun e => ?_)
              · have em : n - n / (2 + (i : Int)) * (2 + (i : Int)) = 0 := V.int.inj (of_decide_eq_true e)
                rw [mod_of_sub] at em
                exact q false ⟨fun z => Bool.noConfusion z, fun z => absurd em (z.2.2 _ (by omega) (by omega))⟩
              · have em : n - n / (2 + (i : Int)) * (2 + (i : Int)) ≠ 0 := fun z => e (decide_eq_true (congrArg V.int z))
                rw [mod_of_sub] at em
                exact ⟨_, rfl, rfl, fun d h1 h2 => if h : d = 2 + (i : Int) then h ▸ em else hd d h1 (by omega)⟩
          · rintro σ' H' ⟨y, rfl, rfl, hd⟩
            exact q true ⟨fun _ => ⟨n2, n3, fun d d2 hdn => hd d d2 (by have := sq_lt hdn (by omega) (by omega); omega)⟩, fun _ => rfl⟩
      · walk_at "rd"
        exact q false ⟨fun z => Bool.noConfusion z, fun z => absurd (decide_eq_true z.1) e⟩
    | _ =>
      walk_at "rd"
      refine iteT ?_
      exact q false ⟨fun z => Bool.noConfusion z, fun z => z.elim⟩
end

section
variable {P : Program} {w : World} {K : PySem.W.Frag} {mg : Str → Option Value} {base : Heap}
theorem ok_init {f : Addr} {fd : FuncData} (F : Fun K "__init__" "Refused.__init__" s_Refused___init__ f fd) : FnOk P w K mg base CX0 1 f fd ["self", "what"] (spErrInit K) := by
  refine F.ok sc_Refused___init__ (fun vs H Q E h => ?_) (fun cdv A outer s H vs Q E hr h => ?_)
  · obtain ⟨a, C, y, rfl, _⟩ := h
    rfl
  · obtain ⟨a, C, y, rfl, hT, hn, ha, q⟩ := h
    refine ⟨_, pss_one (ps_ost (pv 0) (pv 1)), ?_⟩
    exact ⟨_, rfl, _, rfl, a, C, rfl, hT, hn, .inl ⟨ha, fun dx h1 h2 => q dx h1 h2⟩⟩
theorem ok_inverse {f fI C_NoInverse CR : Addr} {fd fdI : FuncData} (D : DefAt K mg "inverse" s_inverse ["a", "p"] f fd) (T : Txt K mg) (X_NoInverse : ErrC K mg "NoInverse" C_NoInverse fI CR) (G_init : FnOk P w K mg base CX0 1 fI fdI ["self", "what"] (spErrInit K)) (b_init : Binds K fdI ["self", "what"] []) :
    Ok P w K mg base (L2.CX P w) "inverse" 3 ["a", "p"] (spInverse C_NoInverse) f fd := by
  refine D.mk' (D.F.okX sc_inverse (fun vs H Q E h => ?_) (fun cdv A outer s H vs Q E hr h => ?_))
  · obtain ⟨a, p, rfl, _⟩ := h
    rfl
  · obtain ⟨a, p, rfl, p2, p3, hp, qE, q⟩ := h
    refine ⟨_, pss_cons (ps_par (i := 2) (j := 3) rfl sc_inverse.nd rfl rfl (by decide) rfl rfl (pa_cons (pv 1) (pa_cons (pe_op op_mod (pv 0) (pv 1)) pa_nil)) rfl)
      (pss_cons (ps_if (pt_cmpR op_eq (pv 3) pe_int (nomark _)) (pss_one (ps_raise rfl (takes_of rfl rfl rfl rfl) (pmk_oex (CX := CX0) X_NoInverse.T X_NoInverse.iC X_NoInverse.tI G_init (hr.mono (by decide)) b_init .nil pass0 rfl X_NoInverse.g (pa_cons (pv 0) pa_nil)))) (pss_nil))
      (PSs.nox (pss_cons (ps_asg (pe_tup (pa_cons pe_int (pa_cons pe_int pa_nil))) (pg_tup rfl (pgs_cons (pg_name (i := 4) sc_inverse.nd rfl (Or.inl rfl)) (pgs_cons (pg_name (i := 5) sc_inverse.nd rfl (Or.inl rfl)) pgs_nil))))
      (pss_cons (ps_while PassesOwn.never (pt_cmpR op_gt (pv 3) pe_int (nomark _)) (pss_cons (ps_set (i := 6) sc_inverse.nd rfl (Or.inl rfl) (pe_op op_fdivW (pv 2) (pv 3)))
      (pss_cons (ps_par (i := 2) (j := 3) rfl sc_inverse.nd rfl rfl (by decide) rfl rfl (pa_cons (pv 3) (pa_cons (pe_op op_sub (pv 2) (pe_op op_mulB (pv 6) (pv 3))) pa_nil)) rfl)
      (pss_one (ps_par (i := 4) (j := 5) rfl sc_inverse.nd rfl rfl (by decide) rfl rfl (pa_cons (pv 5) (pa_cons (pe_op op_sub (pv 4) (pe_op op_mulB (pv 6) (pv 5))) pa_nil)) rfl)))))
      (pss_one (ps_ret (pe_op op_mod (pv 5) (pv 1)))))))), ?_⟩
    walk_at "rd"
    refine ite2 (fun e => ?_) (fun e => ?_)
    · have e1 : a % p = 0 := V.int.inj (of_decide_eq_true e)
      walk_at "rd"
      exact made_err X_NoInverse (fun d hd => qE e1 d hd)
    · have e1 : a % p ≠ 0 := fun z => e (decide_eq_true (congrArg V.int z))
      have m0 := Int.emod_nonneg a (show p ≠ 0 by omega)
      have m1 := Int.emod_lt_of_pos a (show 0 < p by omega)
      walk_at "rd"
      refine ⟨by show 2 ≤ sizeLine; decide, fun tp htp => ?_⟩
      refine ⟨tp, _, rfl, SqT.of upd_same, rfl, ?_⟩
      walk_at "rd"
      refine ⟨fun m σ' H' => ∃ (left rest before found : Int) (y : Option V), σ' = [some (.int a), some (.int p), some (.int left), some (.int rest), some (.int before), some (.int found), y] ∧ Same H H' ∧ Euc a p left rest before found ∧ m = rest.toNat, ⟨_, _, _, _, _, _, rfl, same_new htp, Euc.start p2 hp e1, rfl⟩, ?_⟩
      rintro m σ' H' ⟨left, rest, before, found, y, rfl, hs, hE, rfl⟩
      have r0 := hE.r0
      have r1 := hE.r1
      have r2 := hE.r2
      walk_at "rd"
      refine ite2 (fun e => ?_) (fun e => ?_)
      · have e2 : 1 < rest := of_decide_eq_true e
        have t0 : 0 ≤ left / rest := Int.ediv_nonneg (by omega) (by omega)
        have t1 : left / rest ≤ left := Int.ediv_le_self _ (by omega)
        have hS := hE.step e2
        refine ⟨fun σ' H2 => Mid (∃ y, σ' = [some (.int a), some (.int p), some (.int rest), some (.int (left - left / rest * rest)), some (.int found), some (.int (before - left / rest * found)), y] ∧ H2 = H'), fun σ' H2 m => ?_, ?_⟩
        · obtain ⟨y, rfl, rfl⟩ := m.out
          refine ⟨_, ?_, _, _, _, _, y, rfl, hs, hS, rfl⟩
          have := hS.r1
          omega
        · walk_at "rd"
          exact .mk ⟨_, rfl, rfl⟩
      · have e2 : ¬ 1 < rest := fun z => e (decide_eq_true z)
        walk_at "rd"
        exact q e1 _ (Int.emod_nonneg _ (by omega)) (Int.emod_lt_of_pos _ (by omega)) (hE.done p2 e2) _ hs
end

section
variable {P : Program} {w : World} {K : PySem.W.Frag} {mg : Str → Option Value} {base : Heap}
theorem ok__law_inverted {f fV fI C_NoInverse CR : Addr} {fd fdV : FuncData} (D : DefAt K mg "_law_inverted" s__law_inverted ["a", "p"] f fd) (T : Txt K mg) (X_NoInverse : ErrC K mg "NoInverse" C_NoInverse fI CR) (gR : mg "Refused" = some (.ref CR))
    (G_inverse : Ok P w K mg base (L2.CX P w) "inverse" 3 ["a", "p"] (spInverse C_NoInverse) fV fdV) : Ok P w K mg base CX0 "_law_inverted" 4 ["a", "p"] spInverted f fd := by
  refine D.mk' (D.F.ok sc__law_inverted (fun vs H Q E h => ?_) (fun cdv A outer s H vs Q E hr h => ?_))
  · obtain ⟨a, p, rfl, _⟩ := h
    rfl
  · obtain ⟨a, p, rfl, p2, p3, hp, q1, q2⟩ := h
    refine ⟨_, pss_one (ps_try_as (i := 2) (tb := fun W => tRet (tTup (tCons (tCallS (spInverse C_NoInverse) (WE W) (tCons (tVar 0) (tCons (tVar 1) tNil))) tNil))) (ts := tSuiteR K C_NoInverse CR 2) (Wout := fun _ _ _ _ => False) rfl rfl sc__law_inverted.nd rfl rfl ⟨rfl, by decide, .inl X_NoInverse.g⟩ takes0 (fun W pn xe tk _ => pss_one (ps_ret (pe_tup (pa_cons (pe_callS G_inverse.ok (hr.mono (by decide)) rfl G_inverse.g G_inverse.k G_inverse.b (fun σ => passAt tk σ) (pa_cons (pv 0) (pa_cons (pv 1) pa_nil))) pa_nil)))) (fun a oe cls d pn hz hf => pss_one (ps_ret (pe_ifExp (PW.pt (pw_and (pt_val (pe_callB (call_isD X_NoInverse.X hz hf) rfl T.b_isinstance (by decide +kernel) (pa_cons (pv 2) (pa_cons (pe_glob (v := .ref CR) rfl gR rfl) pa_nil)))) (pw_and1 (pt_val (pe_callB (call_isD X_NoInverse.X hz hf) rfl T.b_isinstance (by decide +kernel) (pa_cons (pv 2) (pa_cons (pe_bltn (v := .ty "ValueError") (u := .type "ValueError") rfl T.b_ValueError (by decide +kernel) rfl) pa_nil))))))) (pe_tup (pa_cons pe_str (pa_cons (pe_xf X_NoInverse.XF X_NoInverse.nW hz hf (pv 2)) pa_nil))) (pe_tup (pa_cons pe_str (pa_cons pe_int pa_nil))))))), ?_⟩
    refine ⟨_, rfl, _, rfl, a, p, rfl, p2, p3, hp, fun e d hd => ⟨true, X_NoInverse.te, fun _ x hx => ?_, fun z => Bool.noConfusion z⟩, fun e b b0 b1 bm H' hs => ⟨by show 1 ≤ sizeLine; decide, fun t ht => q2 e b t _ b0 b1 bm (hs.trans (same_new ht)) upd_same⟩⟩
    exact suiteR X_NoInverse rfl upd_same (fun t ht => q1 e t _ ((same_new hd).trans (same_new ht)) upd_same)
theorem ok__law_inverse_right {f f1 f2 : Addr} {fd fd1 fd2 : FuncData} (D : DefAt K mg "_law_inverse_right" s__law_inverse_right ["a", "p"] f fd) (T : Txt K mg)
    (G__law_inverted : Ok P w K mg base CX0 "_law_inverted" 4 ["a", "p"] spInverted f1 fd1) (G__law_is_whole : Ok P w K mg base CX0 "_law_is_whole" 1 ["thing"] (spWhole K) f2 fd2) : Ok P w K mg base CX0 "_law_inverse_right" 5 ["a", "p"] spInvRight f fd := by
  refine D.mk' (D.F.ok sc__law_inverse_right (fun vs H Q E h => ?_) (fun cdv A outer s H vs Q E hr h => ?_))
  · obtain ⟨a, p, rfl, _⟩ := h
    rfl
  · obtain ⟨a, p, rfl, p2, p3, hp, q⟩ := h
    refine ⟨_, pss_cons (ps_set (i := 2) sc__law_inverse_right.nd rfl (Or.inl rfl) (pe_call G__law_inverted.ok (hr.mono (by decide)) rfl G__law_inverted.g G__law_inverted.k G__law_inverted.b .nil pass0 (pa_cons (pv 0) (pa_cons (pv 1) pa_nil))))
      (pss_cons (ps_if (pt_cmpR op_eq (pe_op op_sub (pv 0) (pe_op op_mulB (pe_op op_fdivW (pv 0) (pv 1)) (pv 1))) pe_int (nomark _)) (pss_one (ps_ret (pe_cmpR (op_eqD hr.units) (pv 2) (pe_tup (pa_cons pe_str (pa_cons (pv 0) pa_nil))) (nomark _)))) (pss_nil))
      (pss_cons (ps_if (PW.pt (pw_or (pt_cmpR op_ne (pe_callB call_len_seq rfl T.b_len PySem.boot_len (pa_cons (pv 2) pa_nil)) pe_int (nomark _)) (pw_or (pt_not (pt_val (pe_call G__law_is_whole.ok (hr.mono (by decide)) rfl G__law_is_whole.g G__law_is_whole.k G__law_is_whole.b .nil pass0 (pa_cons (pe_ix ix_tup (pv 2) pe_int (fun _ _ => rfl)) pa_nil)))) (pw_or1 (pt_not (pt_chain op_le op_lt pe_int (pe_ix ix_tup (pv 2) pe_int (fun _ _ => rfl)) (pv 1))))))) (pss_one (ps_ret pe_bl)) (pss_nil))
      (pss_one (ps_ret (pe_cmpR op_eq (pe_op op_mod (pe_callTy call_int1 rfl T.b_int (by decide +kernel) (pa_cons (pe_op op_sub (pe_op op_mulB (pe_ix ix_tup (pv 2) pe_int (fun _ _ => rfl)) (pv 0)) pe_int) pa_nil)) (pv 1)) pe_int (nomark _)))))), ?_⟩
    refine ⟨_, rfl, _, rfl, a, p, rfl, p2, p3, hp, fun e t H1 s1 ht => ?_, fun e b t H1 b0 b1 bm s1 ht => ?_⟩
    · walk_at "rd"
      have e0 : a - a / p * p = 0 := by rw [mod_of_sub]; exact e
      refine ite2 (fun _ => ?_) (fun z => absurd (decide_eq_true (congrArg V.int e0)) z)
      walk_at "rd"
      refine ⟨by show 2 ≤ sizeLine; decide, fun t2 ht2 => ?_⟩
      refine ⟨.tuple [.str "refused", .int a], .tuple [.str "refused", .int a], .tup (SqT.of (same_new ht2 _ _ ht)) (.cons (.str _) (.cons (.int _) .nil)), .tup (SqT.of upd_same) (.cons (.str _) (.cons (.int _) .nil)), shaped_ref _, shaped_ref _, ?_⟩
      rw [eqv_ref]
      exact q _ (s1.trans (same_new ht2))
    · walk_at "rd"
      have e0 : a - a / p * p ≠ 0 := by rw [mod_of_sub]; exact e
      refine ite2 (fun z => absurd (V.int.inj (of_decide_eq_true z)) e0) (fun _ => ?_)
      have hk : Kn K H1 (.int b) := kn_int b
      walk_at "rd"
      refine ite2 (fun _ => ?_) (fun z => absurd (decide_eq_true b0) z)
      walk_at "rd"
      refine ite2 (fun z => ?_) (fun _ => ?_)
      · rw [decide_eq_true b1] at z
        cases z
      · walk_at "rd"
        show Q (.bl (decide (V.int ((b * a - 1) % p) = V.int 0))) H1
        rw [bm]
        exact q H1 s1
theorem ok__law_ways {f : Addr} {fd : FuncData} (D : DefAt K mg "_law_ways" s__law_ways ["n", "j"] f fd) (T : Txt K mg) : Ok P w K mg base CX0 "_law_ways" 1 ["n", "j"] spWays f fd := by
  refine D.mk' (D.F.ok sc__law_ways (fun vs H Q E h => ?_) (fun cdv A outer s H vs Q E hr h => ?_))
  · obtain ⟨n, j, rfl, _⟩ := h
    rfl
  · obtain ⟨n, j, rfl, h99, hj, q⟩ := h
    refine ⟨_, pss_cons (ps_set (i := 2) sc__law_ways.nd rfl (Or.inl rfl) pe_int)
      (pss_cons (ps_for PassesOwn.never rfl (pi_range1 rfl T.b_range (pa_cons (pe_callB (call_min2 rfl) rfl T.b_min (by decide +kernel) (pa_cons (pv 1) (pa_cons (pv 0) pa_nil))) pa_nil)) (pg_name (i := 3) sc__law_ways.nd rfl (Or.inl rfl)) (pss_one (ps_set (i := 2) sc__law_ways.nd rfl (Or.inl rfl) (pe_op op_fdivW (pe_op op_mulB (pv 2) (pe_op op_sub (pv 0) (pv 3))) (pe_op op_add (pv 3) pe_int)))))
      (pss_one (ps_ret (pe_ifExp (pt_cmpR op_le (pv 1) (pv 0) (nomark _)) (pv 2) pe_int)))), ?_⟩
    have e : (if (n : Int) < (j : Int) then (n : Int) else (j : Int)) = ((min j n : Nat) : Int) := by split <;> omega
    walk_at "rd"
    rw [e]
    refine ⟨by omega, by omega, ?_⟩
    refine for_range (lo := 0) (n := ((min j n : Nat) : Int).toNat) (fun i σ' H' => ∃ y, σ' = [some (.int n), some (.int j), some (.int (Fs.bin n i)), y] ∧ H' = H) ⟨_, by rw [bin_zero]; rfl, rfl⟩ ?_ ?_
    · rintro i σ' H' hi ⟨y, rfl, rfl⟩
      have hin : i < n := by omega
      have e2 : Fs.bin n i * ((n : Int) - (0 + (i : Int))) / (0 + (i : Int) + 1) = Fs.bin n (i + 1) := by
        rw [Int.zero_add]
        exact bin_next hin
      walk_at "rd"
      refine ⟨some (.int (0 + (i : Int))), ?_, rfl⟩
      rw [← e2]
      rfl
    · rintro σ' H' ⟨y, rfl, rfl⟩
      walk_at "rd"
      refine ite2 (fun z => ?_) (fun z => ?_)
      · have z1 : (j : Int) ≤ (n : Int) := of_decide_eq_true z
        have z2 : ((min j n : Nat) : Int).toNat = j := by omega
        walk_at "rd"
        rw [z2]
        exact q
      · have z1 : ¬ (j : Int) ≤ (n : Int) := fun q => z (decide_eq_true q)
        rw [bin_above n j (by omega)] at q
        exact q
theorem ok_choose {f : Addr} {fd : FuncData} (D : DefAt K mg "choose" s_choose ["n", "j", "p"] f fd) (T : Txt K mg) : Ok P w K mg base CX0 "choose" 1 ["n", "j", "p"] (spChoose K) f fd := by
  refine D.mk' (D.F.ok sc_choose (fun vs H Q E h => ?_) (fun cdv A outer s H vs Q E hr h => ?_))
  · obtain ⟨n, j, p, rfl, _⟩ := h
    rfl
  · obtain ⟨n, j, p, rfl, h99, p2, q⟩ := h
    refine ⟨_, pss_cons (ps_if (pt_cmpR op_gt (pv 1) (pv 0) (nomark _)) (pss_one (ps_ret pe_int)) (pss_nil))
      (pss_cons (ps_set (i := 3) sc_choose.nd rfl (Or.inl rfl) (pe_lst (pa_cons pe_int pa_nil)))
      (pss_cons (ps_for PassesOwn.never rfl (pi_range1 rfl T.b_range (pa_cons (pv 0) pa_nil)) (pg_name (i := 4) sc_choose.nd rfl (Or.inl rfl)) (pss_one (ps_set (i := 3) sc_choose.nd rfl (Or.inl rfl) (pe_op op_cat (pe_op op_cat (pe_lst (pa_cons pe_int pa_nil)) (pe_lc (own := [("a", 5), ("b", 6)]) (g := gTup K 2 (gCons (gName 5) (gCons (gName 6) gNil))) (tt := tYes) rfl sc_choose.nd (pi_zip rfl T.b_zip (pa_cons (pv 3) (pa_cons (pe_slice sl_list (pv 3) (po_some pe_int) po_none) pa_nil))) (blkOk_by (N := N_choose) (sc := defScope s_choose) (by decide +kernel)) (fun _ _ _ _ _ => pg_tup rfl (pgs_cons (pg_name (i := 5) sc_choose.nd rfl (Or.inl rfl)) (pgs_cons (pg_name (i := 6) sc_choose.nd rfl (Or.inl rfl)) pgs_nil))) (fun _ _ _ _ _ => pts_nil) (fun _ _ _ _ _ => pe_op op_mod (pe_op op_add (pv 5) (pv 6)) (pv 2)))) (pe_lst (pa_cons pe_int pa_nil))))))
      (pss_one (ps_ret (pe_ix ix_list (pv 3) (pv 1) (fun _ _ => rfl)))))), ?_⟩
    walk_at "rd"
    refine ite2 (fun e => ?_) (fun e => ?_)
    · have e1 : (n : Int) < (j : Int) := of_decide_eq_true e
      have z := q H (Same.refl H)
      rw [bin_above n j (by omega), Int.zero_emod] at z
      exact z
    · have e1 : ¬ (n : Int) < (j : Int) := fun z => e (decide_eq_true z)
      walk_at "rd"
      refine ⟨by show 1 ≤ sizeLine; decide, fun w1 hw1 => ?_⟩
      walk_at "rd"
      refine ⟨by omega, by omega, ?_⟩
      refine for_range (lo := 0) (n := (n : Int).toNat) (fun i σ' H' => ∃ wp y, σ' = [some (.int n), some (.int j), some (.int p), some (.ref wp), y, none, none] ∧ Same H H' ∧ H' wp = some (.lst ((triRow p i).map V.int))) ⟨w1, none, rfl, same_new hw1, by rw [upd_same, ← triRow_zero p2]; rfl⟩ ?_ ?_
      · rintro i σ' H' hi ⟨wp, y, rfl, hs, hw⟩
        have hin : i < n := by omega
        -- [1]
        refine ⟨by show 1 ≤ sizeLine; decide, fun u hu => ?_⟩
        -- zip(ways, ways[1:])
        have su := same_new (o := .lst [V.int 1]) hu
        have hw1 := su _ _ hw
        refine ⟨_, rfl, _, rfl, 1, rfl, wp, _, rfl, SqL.of hw1, fun c hc => ?_⟩
        have sc := same_new (o := .lst (cutV ((triRow p i).map V.int) (some 1) none)) hc
        refine ⟨wp, c, _, _, rfl, SqL.of (sc _ _ hw1), SqL.of upd_same, fun D hD => ?_⟩
        have hwD : upd (upd H' u (.lst [V.int 1])) c (.lst (cutV ((triRow p i).map V.int) (some 1) none)) wp = some (.lst ((triRow p i).map V.int)) := sc _ _ hw1
        have hcD : upd (upd H' u (.lst [V.int 1])) c (.lst (cutV ((triRow p i).map V.int) (some 1) none)) c = some (.lst ((triRow p i).map V.int |>.drop 1)) := by rw [upd_same, cut_one]
        have huD : upd (upd H' u (.lst [V.int 1])) c (.lst (cutV ((triRow p i).map V.int) (some 1) none)) u = some (.lst [V.int 1]) := sc _ _ upd_same
        have hsD : Same H (upd (upd H' u (.lst [V.int 1])) c (.lst (cutV ((triRow p i).map V.int) (some 1) none))) := (hs.trans su).trans sc
        generalize upd (upd H' u (.lst [V.int 1])) c (.lst (cutV ((triRow p i).map V.int) (some 1) none)) = H2 at hwD hcD huD hsD hD
        refine lc_zipN (K := K) (a := wp) (b := c) (xs := (triRow p i).map V.int) (ys := ((triRow p i).map V.int).drop 1) i (by rw [List.length_map, triRow_len]; omega) (by rw [List.length_drop, List.length_map, triRow_len]; omega) (.inr (by rw [List.length_drop, List.length_map, triRow_len]; omega))
          (fun k Hc => Same H2 Hc ∧ Hc D = some (.lst ((triIn p i k).map V.int))) ⟨same_new hD, upd_same⟩ (fun k Hc hc => ⟨SqL.of (hc.1 _ _ hwD), SqL.of (hc.1 _ _ hcD)⟩) ?_ ?_
        · rintro k x y T Hc hx hy ⟨hsc, hdc⟩ hT
          have hki : k < i := by
            have := (List.getElem?_eq_some_iff.mp hy).1
            rw [List.length_drop, List.length_map, triRow_len] at this
            omega
          have ex : x = .int (Fs.bin i k % p) := by
            rw [List.getElem?_map, triRow_get (by omega)] at hx
            exact (Option.some.inj hx).symm
          have ey : y = .int (Fs.bin i (k + 1) % p) := by
            rw [List.getElem?_drop, List.getElem?_map, Nat.add_comm 1 k, triRow_get (by omega)] at hy
            exact (Option.some.inj hy).symm
          subst ex ey
          have sT := same_new (o := .tup [V.int (Fs.bin i k % p), V.int (Fs.bin i (k + 1) % p)]) hT
          refine ⟨T, _, rfl, SqT.of upd_same, rfl, _, _, rfl, _, _, rfl, rfl, rfl, ?_⟩
          walk_at "rd"
          refine ⟨_, sT _ _ hdc, ?_, ?_, ?_⟩
          · rw [List.length_map, triIn_len]
            exact small1000 (by omega)
          · intro b o e
            have nb : b ≠ D := ne_of_none e hD
            rw [upd_ne nb]
            exact sT _ _ (hsc _ _ e)
          · rw [upd_same, triIn_succ, List.map_append]
            rfl
        · rintro Hc ⟨hsc, hdc⟩
          have hl1 : [V.int 1].length + ((triIn p i i).map V.int).length ≤ sizeLine := by
            rw [List.length_map, triIn_len]
            exact Nat.le_of_lt (small1000 (by show 1 + i ≤ 1000; omega))
          have hl2 : ([V.int 1] ++ (triIn p i i).map V.int).length + [V.int 1].length ≤ sizeLine := by
            rw [List.length_append, List.length_map, triIn_len]
            exact Nat.le_of_lt (small1000 (by show 1 + i + 1 ≤ 1000; omega))
          refine ⟨_, _, _, _, rfl, rfl, hsc _ _ huD, hdc, hl1, fun v hv => ?_⟩
          refine ⟨by show 1 ≤ sizeLine; decide, fun x hx => ?_⟩
          refine ⟨_, _, _, _, rfl, rfl, same_new hx _ _ upd_same, upd_same, hl2, fun z hz => ?_⟩
          refine ⟨z, some (.int (0 + (i : Int))), rfl, (((hsD.trans hsc).trans (same_new hv)).trans (same_new hx)).trans (same_new hz), ?_⟩
          rw [upd_same, ← triRow_next p2, List.map_append, List.map_append]
          rfl
      · rintro σ' H' ⟨wp, y, rfl, hs, hw⟩
        have hg : ((triRow p n).map V.int)[j]? = some (.int (Fs.bin n j % p)) := by
          rw [List.getElem?_map, triRow_get (by omega)]
          rfl
        walk_at "rd"
        refine ⟨_, _, _, _, rfl, rfl, SqL.of hw, atI_nat hg, ?_⟩
        exact q H' hs
end

def spPrimesRight : Sp := fun vs H Q _ => ∃ (p l : Addr), vs = [.ref p] ∧ PoolAt H p l ∧ ∀ H', PoolAt H' p l → Q (.bl true) H'
def spLaw (K : PySem.W.Frag) : Sp := fun vs H Q _ => ∃ (a : Addr) (ns : List Int), vs = [.ref a] ∧ SqL K H a (ns.map V.int) ∧ ns.length ≤ 63 ∧ ∀ H', Q (.bl true) H'
section
variable {P : Program} {w : World} {K : PySem.W.Frag} {mg : Str → Option Value} {base : Heap}
theorem ok__law_primes_right {f f1 f2 f3 f4 : Addr} {fd fd1 fd2 fd3 fd4 : FuncData} (D : DefAt K mg "_law_primes_right" s__law_primes_right ["pool"] f fd) (T : Txt K mg)
    (G__law_draw : Ok P w K mg base CX0 "_law_draw" 1 ["pool", "many"] spDraw f1 fd1) (G__law_pick : Ok P w K mg base CX0 "_law_pick" 2 ["pool", "things"] (spPick K) f2 fd2) (G_is_prime : Ok P w K mg base CX0 "is_prime" 3 ["n"] (spIsPrime K) f3 fd3) (G__law_is_prime : Ok P w K mg base CX0 "_law_is_prime" 2 ["n"] (spIsPrime K) f4 fd4) :
    Ok P w K mg base CX0 "_law_primes_right" 4 ["pool"] spPrimesRight f fd := by
  refine D.mk' (D.F.ok sc__law_primes_right (fun vs H Q E h => ?_) (fun cdv A outer s H vs Q E hr h => ?_))
  · obtain ⟨p, l, rfl, _⟩ := h
    rfl
  · obtain ⟨p, l, rfl, hP, q⟩ := h
    refine ⟨_, pss_cons (ps_set (i := 1) sc__law_primes_right.nd rfl (Or.inl rfl) (pe_call G__law_pick.ok (hr.mono (by decide)) rfl G__law_pick.g G__law_pick.k G__law_pick.b .nil pass0 (pa_cons (pv 0) (pa_cons (pe_lst (pa_cons pe_int (pa_cons pe_int (pa_cons pe_int (pa_cons pe_int (pa_cons pe_int (pa_cons pe_int (pa_cons pe_int (pa_cons pe_int pa_nil))))))))) pa_nil))))
      (pss_cons (ps_set (i := 2) sc__law_primes_right.nd rfl (Or.inl rfl) (pe_lst (pa_cons (pv 1) (pa_cons (pe_op op_mulB (pv 1) (pv 1)) (pa_cons (pe_op op_add (pv 1) pe_int) (pa_cons (pe_op op_sub (pe_call G__law_draw.ok (hr.mono (by decide)) rfl G__law_draw.g G__law_draw.k G__law_draw.b .nil pass0 (pa_cons (pv 0) (pa_cons pe_int pa_nil))) pe_int) (pa_cons pe_int (pa_cons pe_int (pa_cons pe_int (pa_cons (pe_call G__law_draw.ok (hr.mono (by decide)) rfl G__law_draw.g G__law_draw.k G__law_draw.b .nil pass0 (pa_cons (pv 0) (pa_cons pe_int pa_nil))) pa_nil))))))))))
      (pss_cons (ps_set (i := 2) sc__law_primes_right.nd rfl (Or.inl rfl) (pe_op op_cat (pv 2) (pe_lst (pa_cons (pe_call G__law_pick.ok (hr.mono (by decide)) rfl G__law_pick.g G__law_pick.k G__law_pick.b .nil pass0 (pa_cons (pv 0) (pa_cons (pe_lst (pa_cons pe_bl (pa_cons pe_bl (pa_cons pe_non (pa_cons pe_str (pa_cons (pe_tup (pa_cons pe_int pa_nil)) (pa_cons (pe_tup pa_nil) (pa_cons (pe_op op_add (pe_op op_pow pe_int pe_int) pe_int) (pa_cons pe_int (pa_cons pe_int (pa_cons (pe_un un_neg pe_int) pa_nil))))))))))) pa_nil))) pa_nil))))
      (pss_cons (ps_for PassesOwn.never rfl (pi_list (pv 2)) (pg_name (i := 3) sc__law_primes_right.nd rfl (Or.inl rfl)) (pss_cons (ps_set (i := 4) sc__law_primes_right.nd rfl (Or.inl rfl) (pe_call G_is_prime.ok (hr.mono (by decide)) rfl G_is_prime.g G_is_prime.k G_is_prime.b .nil pass0 (pa_cons (pv 3) pa_nil)))
      (pss_one (ps_if (PW.pt (pw_or (pt_not (pt_val (pe_callB call_isi rfl T.b_isinstance (by decide +kernel) (pa_cons (pv 4) (pa_cons (pe_bltn (v := .ty "bool") (u := .type "bool") rfl T.b_bool (by decide +kernel) rfl) pa_nil))))) (pw_or1 (pt_cmpR op_ne (pv 4) (pe_call G__law_is_prime.ok (hr.mono (by decide)) rfl G__law_is_prime.g G__law_is_prime.k G__law_is_prime.b .nil pass0 (pa_cons (pv 3) pa_nil)) (nomark _))))) (pss_one (ps_ret pe_bl)) (pss_nil)))))
      (pss_one (ps_ret pe_bl))))), ?_⟩
    walk_at "rd"
    refine ⟨by show 8 ≤ sizeLine; decide, fun t ht => ?_⟩
    have ne := hP.ne ht
    refine ⟨p, l, t, _, rfl, hP.same (same_new ht), ne.1, ne.2, SqL.of upd_same, by show 1 ≤ 8; decide, by show 8 ≤ 1000; decide, fun x H2 hx hP2 hB2 => ?_⟩
    obtain ⟨z, rfl, z1, z2⟩ : ∃ z : Int, x = .int z ∧ 2 ≤ z ∧ z ≤ 251 := by
      simp only [List.mem_cons, List.not_mem_nil, or_false] at hx
      rcases hx with rfl | rfl | rfl | rfl | rfl | rfl | rfl | rfl <;> exact ⟨_, rfl, by decide, by decide⟩
    walk_at "rd"
    refine ⟨p, l, 40, rfl, hP2, by decide, by decide, fun v3 H3 v30 v31 hP3 hB3 => ?_⟩
    walk_at "rd"
    refine ⟨p, l, 65522, rfl, hP3, by decide, by decide, fun v4 H4 v40 v41 hP4 hB4 => ?_⟩
    refine ⟨by show 8 ≤ sizeLine; decide, fun t2 ht2 => ?_⟩
    have ne2 := hP4.ne ht2
    have s2 := same_new (o := .lst [V.int z, V.int (z * z), V.int (z + 1), V.int (v3 - 3), V.int 65521, V.int 65520, V.int 65537, V.int v4]) ht2
    have hP5 := hP4.same s2
    have g2 : upd H4 t2 (.lst [V.int z, V.int (z * z), V.int (z + 1), V.int (v3 - 3), V.int 65521, V.int 65520, V.int 65537, V.int v4]) t2 = some (.lst [V.int z, V.int (z * z), V.int (z + 1), V.int (v3 - 3), V.int 65521, V.int 65520, V.int 65537, V.int v4]) := upd_same
    walk_at "rd"
    refine ⟨by show 1 ≤ sizeLine; decide, fun u1 hu1 => ?_⟩
    have n1 := hP5.ne hu1
    have s3 := same_new (o := .tup [V.int 7]) hu1
    refine ⟨Nat.zero_le _, fun u2 hu2 => ?_⟩
    have n2 := (hP5.same s3).ne hu2
    have s4 := same_new (o := .tup []) hu2
    walk_at "rd"
    refine ⟨by show 10 ≤ sizeLine; decide, fun t3 ht3 => ?_⟩
    have n3 := ((hP5.same s3).same s4).ne ht3
    have s5 := same_new (o := .lst [V.bl true, V.bl false, V.non, V.str (Str.ofString "7"), V.ref u1, V.ref u2, V.int (10 ^ Int.toNat 30 + 57), V.int 0, V.int 1, V.int (-7)]) ht3
    have k1 := s5 _ _ (s4 _ _ upd_same : _ = some (HO.tup [V.int 7]))
    have k2 := s5 _ _ (upd_same : _ = some (HO.tup []))
    have k3 := s5 _ _ (s4 _ _ (s3 _ _ g2))
    refine ⟨p, l, t3, _, rfl, ((hP5.same s3).same s4).same s5, n3.1, n3.2, SqL.of upd_same, by show 1 ≤ 10; decide, by show 10 ≤ 1000; decide, fun x H6 hx hP6 hB6 => ?_⟩
    have j1 := hB6 _ _ n1.1 n1.2 k1
    have j2 := hB6 _ _ n2.1 n2.2 k2
    have j3 := hB6 _ _ ne2.1 ne2.2 k3
    have hkx : Kn K H6 x := by
      simp only [List.mem_cons, List.not_mem_nil, or_false] at hx
      rcases hx with rfl | rfl | rfl | rfl | rfl | rfl | rfl | rfl | rfl | rfl
      · exact kn_bl _
      · exact kn_bl _
      · exact .inl rfl
      · exact kn_str _
      · exact kn_tup j1
      · exact kn_tup j2
      · exact kn_int _
      · exact kn_int _
      · exact kn_int _
      · exact kn_int _
    refine ⟨by show 1 ≤ sizeLine; decide, fun t4 ht4 => ?_⟩
    have s6 := same_new (o := .lst [x]) ht4
    refine ⟨_, _, _, _, rfl, rfl, s6 _ _ j3, upd_same, by show 9 ≤ sizeLine; decide, fun t5 ht5 => ?_⟩
    have s7 := same_new (o := .lst ([V.int z, V.int (z * z), V.int (z + 1), V.int (v3 - 3), V.int 65521, V.int 65520, V.int 65537, V.int v4] ++ [x])) ht5
    have hP7 := (hP6.same s6).same s7
    have hk7 := (hkx.same s6).same s7
    have g7 : upd (upd H6 t4 (.lst [x])) t5 (.lst ([V.int z, V.int (z * z), V.int (z + 1), V.int (v3 - 3), V.int 65521, V.int 65520, V.int 65537, V.int v4] ++ [x])) t5 = some (.lst ([V.int z, V.int (z * z), V.int (z + 1), V.int (v3 - 3), V.int 65521, V.int 65520, V.int 65537, V.int v4] ++ [x])) := upd_same
    have hall : ∀ y ∈ ([V.int z, V.int (z * z), V.int (z + 1), V.int (v3 - 3), V.int 65521, V.int 65520, V.int 65537, V.int v4] ++ [x]), Kn K (upd (upd H6 t4 (.lst [x])) t5 (.lst ([V.int z, V.int (z * z), V.int (z + 1), V.int (v3 - 3), V.int 65521, V.int 65520, V.int 65537, V.int v4] ++ [x]))) y := by
      intro y hy
      simp only [List.mem_append, List.mem_cons, List.not_mem_nil, or_false] at hy
      rcases hy with (rfl | rfl | rfl | rfl | rfl | rfl | rfl | rfl) | rfl <;> first | exact kn_int _ | exact hk7
    generalize upd (upd H6 t4 (.lst [x])) t5 (.lst ([V.int z, V.int (z * z), V.int (z + 1), V.int (v3 - 3), V.int 65521, V.int 65520, V.int 65537, V.int v4] ++ [x])) = H8 at hP7 g7 hall
    generalize [V.int z, V.int (z * z), V.int (z + 1), V.int (v3 - 3), V.int 65521, V.int 65520, V.int 65537, V.int v4] ++ [x] = things at g7 hall
    refine ⟨_, rfl, t5, rfl, ⟨_, SqL.of g7⟩, for_list (K := K) (a := t5) (xs := things) (fun i σ' H' => ∃ y3 y4, σ' = [some (.ref p), some (.int z), some (.ref t5), y3, y4] ∧ H' = H8) ⟨_, _, rfl, rfl⟩ (fun i σ' H' _ h => by obtain ⟨_, _, _, rfl⟩ := h; exact SqL.of g7) ?_ ?_⟩
    · rintro i y σ' H' hi ⟨y3, y4, rfl, rfl⟩
      have hky := hall y (List.mem_of_getElem? hi)
      walk_at "rd"
      refine fun b hb => ?_
      obtain ⟨tt, htt, q1, q2⟩ := isi_int (kn_bl (K := K) (H := H') b)
      walk_at "rd"
      refine fun b2 hb2 => ?_
      have e : b = b2 := Bool.eq_iff_iff.mpr (hb.trans hb2.symm)
      subst e
      walk_at "rd"
      refine ite2 (fun z => ?_) (fun _ => ⟨_, _, rfl, rfl⟩)
      have z2 : (!decide (V.bl b = V.bl b)) = true := z
      rw [decide_eq_true rfl] at z2
      cases z2
    · rintro σ' H' ⟨y3, y4, rfl, rfl⟩
      exact q _ hP7
theorem ok_law {f f1 f2 f3 f4 f5 f6 f7 f8 : Addr} {fd fd1 fd2 fd3 fd4 fd5 fd6 fd7 fd8 : FuncData} (D : DefAt K mg "law" s_law ["script"] f fd) (T : Txt K mg)
    (G__law_pool : Ok P w K mg base CX0 "_law_pool" 1 ["script"] (spPool K) f1 fd1) (G__law_draw : Ok P w K mg base CX0 "_law_draw" 1 ["pool", "many"] spDraw f2 fd2) (G__law_pick : Ok P w K mg base CX0 "_law_pick" 2 ["pool", "things"] (spPick K) f3 fd3)
    (G__law_primes_right : Ok P w K mg base CX0 "_law_primes_right" 4 ["pool"] spPrimesRight f4 fd4) (G__law_inverse_right : Ok P w K mg base CX0 "_law_inverse_right" 5 ["a", "p"] spInvRight f5 fd5) (G_choose : Ok P w K mg base CX0 "choose" 1 ["n", "j", "p"] (spChoose K) f6 fd6)
    (G__law_is_whole : Ok P w K mg base CX0 "_law_is_whole" 1 ["thing"] (spWhole K) f7 fd7) (G__law_ways : Ok P w K mg base CX0 "_law_ways" 1 ["n", "j"] spWays f8 fd8) : FnOk P w K mg base CX0 6 f fd ["script"] (spLaw K) := by
  refine D.F.ok sc_law (fun vs H Q E h => ?_) (fun cdv A outer s H vs Q E hr h => ?_)
  · obtain ⟨a, ns, rfl, _⟩ := h
    rfl
  · obtain ⟨a, ns, rfl, hS, h63, q⟩ := h
    refine ⟨_, pss_cons (ps_set (i := 1) sc_law.nd rfl (Or.inl rfl) (pe_call G__law_pool.ok (hr.mono (by decide)) rfl G__law_pool.g G__law_pool.k G__law_pool.b .nil pass0 (pa_cons (pv 0) pa_nil)))
      (pss_cons (ps_if (pt_not (pt_val (pe_call G__law_primes_right.ok (hr.mono (by decide)) rfl G__law_primes_right.g G__law_primes_right.k G__law_primes_right.b .nil pass0 (pa_cons (pv 1) pa_nil)))) (pss_one (ps_ret pe_bl)) (pss_nil))
      (pss_cons (ps_set (i := 2) sc_law.nd rfl (Or.inl rfl) (pe_call G__law_pick.ok (hr.mono (by decide)) rfl G__law_pick.g G__law_pick.k G__law_pick.b .nil pass0 (pa_cons (pv 1) (pa_cons (pe_lst (pa_cons pe_int (pa_cons pe_int (pa_cons pe_int (pa_cons pe_int (pa_cons pe_int (pa_cons pe_int (pa_cons pe_int (pa_cons pe_int (pa_cons pe_int pa_nil)))))))))) pa_nil))))
      (pss_cons (ps_for PassesOwn.never rfl (pi_list (pe_lst (pa_cons pe_int (pa_cons (pe_op op_sub (pv 2) pe_int) (pa_cons (pe_op op_sub pe_int (pe_op op_mulB (pv 2) (pe_call G__law_draw.ok (hr.mono (by decide)) rfl G__law_draw.g G__law_draw.k G__law_draw.b .nil pass0 (pa_cons (pv 1) (pa_cons pe_int pa_nil))))) (pa_cons (pe_op op_sub pe_int (pe_op op_mulB (pv 2) (pe_call G__law_draw.ok (hr.mono (by decide)) rfl G__law_draw.g G__law_draw.k G__law_draw.b .nil pass0 (pa_cons (pv 1) (pa_cons pe_int pa_nil))))) (pa_cons (pe_op op_sub (pe_call G__law_draw.ok (hr.mono (by decide)) rfl G__law_draw.g G__law_draw.k G__law_draw.b .nil pass0 (pa_cons (pv 1) (pa_cons (pe_op op_pow pe_int pe_int) pa_nil))) (pe_op op_pow pe_int pe_int)) pa_nil))))))) (pg_name (i := 3) sc_law.nd rfl (Or.inl rfl)) (pss_one (ps_if (pt_not (pt_val (pe_call G__law_inverse_right.ok (hr.mono (by decide)) rfl G__law_inverse_right.g G__law_inverse_right.k G__law_inverse_right.b .nil pass0 (pa_cons (pv 3) (pa_cons (pv 2) pa_nil))))) (pss_one (ps_ret pe_bl)) (pss_nil))))
      (pss_cons (ps_for PassesOwn.never rfl (pi_range1 rfl T.b_range (pa_cons pe_int pa_nil)) (pg_name (i := 4) sc_law.nd rfl (Or.inl rfl)) (pss_cons (ps_set (i := 5) sc_law.nd rfl (Or.inl rfl) (pe_call G__law_pick.ok (hr.mono (by decide)) rfl G__law_pick.g G__law_pick.k G__law_pick.b .nil pass0 (pa_cons (pv 1) (pa_cons (pe_lst (pa_cons pe_int (pa_cons pe_int (pa_cons (pv 2) (pa_cons (pe_call G__law_draw.ok (hr.mono (by decide)) rfl G__law_draw.g G__law_draw.k G__law_draw.b .nil pass0 (pa_cons (pv 1) (pa_cons pe_int pa_nil))) (pa_cons (pe_call G__law_draw.ok (hr.mono (by decide)) rfl G__law_draw.g G__law_draw.k G__law_draw.b .nil pass0 (pa_cons (pv 1) (pa_cons pe_int pa_nil))) (pa_cons (pe_call G__law_draw.ok (hr.mono (by decide)) rfl G__law_draw.g G__law_draw.k G__law_draw.b .nil pass0 (pa_cons (pv 1) (pa_cons pe_int pa_nil))) pa_nil))))))) pa_nil))))
      (C8.pss_cut (ps_set (i := 5) sc_law.nd rfl (Or.inl rfl) (pe_ifExp (pt_cmpR op_lt (pv 5) pe_int (nomark _)) (pv 5) pe_int))
      (pss_cons (ps_set (i := 6) sc_law.nd rfl (Or.inl rfl) (pe_call G__law_pick.ok (hr.mono (by decide)) rfl G__law_pick.g G__law_pick.k G__law_pick.b .nil pass0 (pa_cons (pv 1) (pa_cons (pe_lst (pa_cons pe_int (pa_cons pe_int (pa_cons (pv 5) (pa_cons (pe_op op_add (pv 5) pe_int) (pa_cons (pe_op op_fdivW (pv 5) pe_int) (pa_cons (pe_call G__law_draw.ok (hr.mono (by decide)) rfl G__law_draw.g G__law_draw.k G__law_draw.b .nil pass0 (pa_cons (pv 1) (pa_cons (pe_op op_add (pv 5) pe_int) pa_nil))) pa_nil))))))) pa_nil))))
      (pss_cons (ps_set (i := 7) sc_law.nd rfl (Or.inl rfl) (pe_call G_choose.ok (hr.mono (by decide)) rfl G_choose.g G_choose.k G_choose.b .nil pass0 (pa_cons (pv 5) (pa_cons (pv 6) (pa_cons (pv 2) pa_nil)))))
      (pss_one (ps_if (PW.pt (pw_or (pt_not (pt_val (pe_call G__law_is_whole.ok (hr.mono (by decide)) rfl G__law_is_whole.g G__law_is_whole.k G__law_is_whole.b .nil pass0 (pa_cons (pv 7) pa_nil)))) (pw_or1 (pt_cmpR op_ne (pv 7) (pe_op op_sub (pe_call G__law_ways.ok (hr.mono (by decide)) rfl G__law_ways.g G__law_ways.k G__law_ways.b .nil pass0 (pa_cons (pv 5) (pa_cons (pv 6) pa_nil))) (pe_op op_mulB (pe_op op_fdivW (pe_call G__law_ways.ok (hr.mono (by decide)) rfl G__law_ways.g G__law_ways.k G__law_ways.b .nil pass0 (pa_cons (pv 5) (pa_cons (pv 6) pa_nil))) (pv 2)) (pv 2))) (nomark _))))) (pss_one (ps_ret pe_bl)) (pss_nil))))))))
      (pss_one (ps_ret pe_bl)))))), ?_⟩
    refine ⟨_, rfl, a, ns, rfl, hS, h63, fun H1 p l s1 hp hl hP => ?_⟩
    refine ⟨_, rfl, p, l, rfl, hP, fun H2 hP2 => ?_⟩
    walk_at "rd"
    refine ⟨by show 9 ≤ sizeLine; decide, fun t ht => ?_⟩
    have ne := hP2.ne ht
    refine ⟨p, l, t, _, rfl, hP2.same (same_new ht), ne.1, ne.2, SqL.of upd_same, by show 1 ≤ 9; decide, by show 9 ≤ 1000; decide, fun x H3 hx hP3 hB3 => ?_⟩
    obtain ⟨z, rfl, z2, z3, hz⟩ : ∃ z : Int, x = .int z ∧ 2 ≤ z ∧ z ≤ 65521 ∧ NoDiv z := by
      simp only [List.mem_cons, List.not_mem_nil, or_false] at hx
      rcases hx with rfl | rfl | rfl | rfl | rfl | rfl | rfl | rfl | rfl <;> exact ⟨_, rfl, by decide, by decide, nodiv_small (by decide) (by decide +kernel)⟩
    walk_at "rd"
    refine ⟨p, l, 4, rfl, hP3, by decide, by decide, fun v4 H4 v40 v41 hP4 hB4 => ?_⟩
    walk_at "rd"
    refine ⟨p, l, 9, rfl, hP4, by decide, by decide, fun v5 H5 v50 v51 hP5 hB5 => ?_⟩
    walk_at "rd"
    refine ⟨p, l, _, rfl, hP5, by decide, by decide, fun v6 H6 v60 v61 hP6 hB6 => ?_⟩
    walk_at "rd"
    refine ⟨by show 5 ≤ sizeLine; decide, fun t2 ht2 => ?_⟩
    have ne2 := hP6.ne ht2
    have g2 : ∀ xs : List V, upd H6 t2 (.lst xs) t2 = some (.lst xs) := fun _ => upd_same
    have hP7 : ∀ xs : List V, PoolAt (upd H6 t2 (.lst xs)) p l := fun xs => hP6.same (same_new ht2)
    refine ⟨t2, rfl, ⟨_, SqL.of (g2 _)⟩, ?_⟩
    refine for_list (K := K) (a := t2) (xs := [V.int 1, V.int (z - 1), V.int (0 - z * v4), V.int (1 - z * v5), V.int (v6 - 10 ^ Int.toNat 11)]) (fun i σ' H' => Mid (∃ y3, σ' = [some (.ref a), some (.ref p), some (.int z), y3, none, none, none, none] ∧ PoolAt H' p l ∧ H' t2 = some (.lst [V.int 1, V.int (z - 1), V.int (0 - z * v4), V.int (1 - z * v5), V.int (v6 - 10 ^ Int.toNat 11)]))) (.mk ⟨_, rfl, hP7 _, g2 _⟩) (fun i σ' H' _ h => by obtain ⟨_, _, _, e⟩ := h.out; exact SqL.of e) ?_ ?_
    · intro i y σ' H' hi m
      obtain ⟨y3, rfl, hPi, hti⟩ := m.out
      obtain ⟨u, rfl⟩ : ∃ u : Int, y = .int u := by
        have := List.mem_of_getElem? hi
        simp only [List.mem_cons, List.not_mem_nil, or_false] at this
        rcases this with rfl | rfl | rfl | rfl | rfl <;> exact ⟨_, rfl⟩
      refine ⟨_, rfl, _, rfl, u, z, rfl, z2, z3, hz, fun H8 s8 => ?_⟩
      walk_at "rd"
      exact .mk ⟨_, rfl, hPi.same s8, s8 _ _ hti⟩
    · intro σ' H' m
      obtain ⟨y3, rfl, hPi, hti⟩ := m.out
      walk_at "rd"
      refine ⟨by decide, by decide, ?_⟩
      refine for_range (lo := 0) (n := (3 : Int).toNat) (fun i σ' H' => Mid (∃ y4 y5 y6 y7, σ' = [some (.ref a), some (.ref p), some (.int z), y3, y4, y5, y6, y7] ∧ PoolAt H' p l)) (.mk ⟨_, _, _, _, rfl, hPi⟩) ?_ ?_
      · intro i σ' H' hi m
        obtain ⟨y4, y5, y6, y7, rfl, hP⟩ := m.out
        walk_at "rd"
        refine ⟨p, l, 13, rfl, hP, by decide, by decide, fun a1 G1 a10 a11 hQ1 hC1 => ?_⟩
        walk_at "rd"
        refine ⟨p, l, 13, rfl, hQ1, by decide, by decide, fun a2 G2 a20 a21 hQ2 hC2 => ?_⟩
        walk_at "rd"
        refine ⟨p, l, 100, rfl, hQ2, by decide, by decide, fun a3 G3 a30 a31 hQ3 hC3 => ?_⟩
        refine ⟨by show 6 ≤ sizeLine; decide, fun t3 ht3 => ?_⟩
        have ne3 := hQ3.ne ht3
        refine ⟨p, l, t3, _, rfl, hQ3.same (same_new ht3), ne3.1, ne3.2, SqL.of upd_same, by show 1 ≤ 6; decide, by show 6 ≤ 1000; decide, fun x G4 hx hQ4 hC4 => ?_⟩
        obtain ⟨n, rfl⟩ : ∃ n : Nat, x = .int (n : Int) := by
          simp only [List.mem_cons, List.not_mem_nil, or_false] at hx
          rcases hx with rfl | rfl | rfl | rfl | rfl | rfl
          · exact ⟨0, rfl⟩
          · exact ⟨1, rfl⟩
          · exact ⟨z.toNat, by rw [Int.toNat_of_nonneg (by omega)]⟩
          · exact ⟨a1.toNat, by rw [Int.toNat_of_nonneg a10]⟩
          · exact ⟨a2.toNat, by rw [Int.toNat_of_nonneg a20]⟩
          · exact ⟨a3.toNat, by rw [Int.toNat_of_nonneg a30]⟩
        walk_at "rd"
        refine ⟨fun σ' H' => Mid (∃ (n : Nat) (y4 : Option V), n ≤ 99 ∧ σ' = [some (.ref a), some (.ref p), some (.int z), y3, y4, some (.int (n : Int)), y6, y7] ∧ H' = G4), ?_, ?_⟩
        · walk_at "rd"
          refine ite2 (fun e => ?_) (fun e => ?_)
          · have e1 : (n : Int) < 100 := of_decide_eq_true e
            walk_at "rd"
            exact .mk ⟨n, _, by omega, rfl, rfl⟩
          · walk_at "rd"
            exact .mk ⟨9, _, by omega, rfl, rfl⟩
        · intro σ' H' m
          obtain ⟨n, y4, n99, rfl, rfl⟩ := m.out
          walk_at "rd"
          refine ⟨p, l, _, rfl, hQ4, by omega, by omega, fun a4 G5 a40 a41 hQ5 hC5 => ?_⟩
          refine ⟨by show 6 ≤ sizeLine; decide, fun t4 ht4 => ?_⟩
          have ne4 := hQ5.ne ht4
          refine ⟨p, l, t4, _, rfl, hQ5.same (same_new ht4), ne4.1, ne4.2, SqL.of upd_same, by show 1 ≤ 6; decide, by show 6 ≤ 1000; decide, fun x G6 hx2 hQ6 hC6 => ?_⟩
          obtain ⟨j, rfl, hj⟩ : ∃ j : Nat, x = .int (j : Int) ∧ j ≤ 1000 := by
            simp only [List.mem_cons, List.not_mem_nil, or_false] at hx2
            rcases hx2 with rfl | rfl | rfl | rfl | rfl | rfl
            · exact ⟨0, rfl, by omega⟩
            · exact ⟨1, rfl, by omega⟩
            · exact ⟨n, rfl, by omega⟩
            · exact ⟨n + 1, rfl, by omega⟩
            · exact ⟨n / 2, rfl, by omega⟩
            · exact ⟨a4.toNat, by rw [Int.toNat_of_nonneg a40], by omega⟩
          walk_at "rd"
          refine ⟨n, j, z, rfl, n99, z2, fun G7 s7 => ?_⟩
          have hk7 : Kn K G7 (.int (Fs.bin n j % z)) := kn_int _
          walk_at "rd"
          have eb : V.int (Fs.bin n j % z) = V.int (Fs.bin n j - Fs.bin n j / z * z) := congrArg V.int mod_of_sub.symm
          refine ite2 (fun c => ?_) (fun _ => ?_)
          · have c2 : (!decide (V.int (Fs.bin n j % z) = V.int (Fs.bin n j - Fs.bin n j / z * z))) = true := c
            rw [decide_eq_true eb] at c2
            cases c2
          · exact .mk ⟨_, _, _, _, rfl, hQ6.same s7⟩
      · intro σ' H' m
        obtain ⟨y4, y5, y6, y7, rfl, hP⟩ := m.out
        exact q _
end

theorem all_mk {l : PySem.W.OpenLaw} {w : World} {K : PySem.W.Frag} {h : Heap} {mg : Str → Option Value} {fa f0 f1 f2 f3 f4 f5 f6 f7 f8 f9 f10 f11 f12 f13 f14 fI CR C_NoInverse : Addr} (X : K.In h) (G : h.Ns mainGlobals mg) (hfa : mg "law" = some (.ref fa))
    {od0 an0 : Option Addr} {sl0 : Array (Option Value)} {oc0 kV0 dc0 pm0 cd0 ct0 : Value}
    {od1 an1 : Option Addr} {sl1 : Array (Option Value)} {oc1 kV1 dc1 pm1 cd1 ct1 : Value}
    {od2 an2 : Option Addr} {sl2 : Array (Option Value)} {oc2 kV2 dc2 pm2 cd2 ct2 : Value}
    {od3 an3 : Option Addr} {sl3 : Array (Option Value)} {oc3 kV3 dc3 pm3 cd3 ct3 : Value}
    {od4 an4 : Option Addr} {sl4 : Array (Option Value)} {oc4 kV4 dc4 pm4 cd4 ct4 : Value}
    {od5 an5 : Option Addr} {sl5 : Array (Option Value)} {oc5 kV5 dc5 pm5 cd5 ct5 : Value}
    {od6 an6 : Option Addr} {sl6 : Array (Option Value)} {oc6 kV6 dc6 pm6 cd6 ct6 : Value}
    {od7 an7 : Option Addr} {sl7 : Array (Option Value)} {oc7 kV7 dc7 pm7 cd7 ct7 : Value}
    {od8 an8 : Option Addr} {sl8 : Array (Option Value)} {oc8 kV8 dc8 pm8 cd8 ct8 : Value}
    {od9 an9 : Option Addr} {sl9 : Array (Option Value)} {oc9 kV9 dc9 pm9 cd9 ct9 : Value}
    {od10 an10 : Option Addr} {sl10 : Array (Option Value)} {oc10 kV10 dc10 pm10 cd10 ct10 : Value}
    {od11 an11 : Option Addr} {sl11 : Array (Option Value)} {oc11 kV11 dc11 pm11 cd11 ct11 : Value}
    {od12 an12 : Option Addr} {sl12 : Array (Option Value)} {oc12 kV12 dc12 pm12 cd12 ct12 : Value}
    {od13 an13 : Option Addr} {sl13 : Array (Option Value)} {oc13 kV13 dc13 pm13 cd13 ct13 : Value}
    {od14 an14 : Option Addr} {sl14 : Array (Option Value)} {oc14 kV14 dc14 pm14 cd14 ct14 : Value}
    {tk_MOST_PRIME : Tok}
    {odI anI : Option Addr} {slI : Array (Option Value)} {ocI kVI dcI pmI cdI ctI : Value}
    {nm_NoInverse q_NoInverse : Str} {N_NoInverse : Addr} {bs_NoInverse sb_NoInverse : List Value} {sn_NoInverse : List Str} {ab_NoInverse : Bool} {col_NoInverse : Option Bool} {dd_NoInverse : Option Addr} {m0_NoInverse m1_NoInverse m2_NoInverse m3_NoInverse m5_NoInverse : Option Value}
    (a0 : PySem.W.nsIn K mainGlobals "is_number" = some (some (.ref f0))) (l0 : K.lookup f0 = some ⟨oc0, od0, .func (PySem.W.fnOf "is_number" "is_number" (defArgs s_is_number) (defBody s_is_number) (defScope s_is_number) .none kV0 dc0 pm0 an0 cd0 ct0), sl0⟩) (c0 : PySem.W.codeIn K cd0 "is_number" = true) (k0 : PySem.W.keepIn K (.ref f0) = true)
    (a1 : PySem.W.nsIn K mainGlobals "number_between" = some (some (.ref f1))) (l1 : K.lookup f1 = some ⟨oc1, od1, .func (PySem.W.fnOf "number_between" "number_between" (defArgs s_number_between) (defBody s_number_between) (defScope s_number_between) .none kV1 dc1 pm1 an1 cd1 ct1), sl1⟩) (c1 : PySem.W.codeIn K cd1 "number_between" = true) (k1 : PySem.W.keepIn K (.ref f1) = true)
    (a2 : PySem.W.nsIn K mainGlobals "is_prime" = some (some (.ref f2))) (l2 : K.lookup f2 = some ⟨oc2, od2, .func (PySem.W.fnOf "is_prime" "is_prime" (defArgs s_is_prime) (defBody s_is_prime) (defScope s_is_prime) .none kV2 dc2 pm2 an2 cd2 ct2), sl2⟩) (c2 : PySem.W.codeIn K cd2 "is_prime" = true) (k2 : PySem.W.keepIn K (.ref f2) = true)
    (a3 : PySem.W.nsIn K mainGlobals "inverse" = some (some (.ref f3))) (l3 : K.lookup f3 = some ⟨oc3, od3, .func (PySem.W.fnOf "inverse" "inverse" (defArgs s_inverse) (defBody s_inverse) (defScope s_inverse) .none kV3 dc3 pm3 an3 cd3 ct3), sl3⟩) (c3 : PySem.W.codeIn K cd3 "inverse" = true) (k3 : PySem.W.keepIn K (.ref f3) = true)
    (a4 : PySem.W.nsIn K mainGlobals "choose" = some (some (.ref f4))) (l4 : K.lookup f4 = some ⟨oc4, od4, .func (PySem.W.fnOf "choose" "choose" (defArgs s_choose) (defBody s_choose) (defScope s_choose) .none kV4 dc4 pm4 an4 cd4 ct4), sl4⟩) (c4 : PySem.W.codeIn K cd4 "choose" = true) (k4 : PySem.W.keepIn K (.ref f4) = true)
    (a5 : PySem.W.nsIn K mainGlobals "_law_pool" = some (some (.ref f5))) (l5 : K.lookup f5 = some ⟨oc5, od5, .func (PySem.W.fnOf "_law_pool" "_law_pool" (defArgs s__law_pool) (defBody s__law_pool) (defScope s__law_pool) .none kV5 dc5 pm5 an5 cd5 ct5), sl5⟩) (c5 : PySem.W.codeIn K cd5 "_law_pool" = true) (k5 : PySem.W.keepIn K (.ref f5) = true)
    (a6 : PySem.W.nsIn K mainGlobals "_law_draw" = some (some (.ref f6))) (l6 : K.lookup f6 = some ⟨oc6, od6, .func (PySem.W.fnOf "_law_draw" "_law_draw" (defArgs s__law_draw) (defBody s__law_draw) (defScope s__law_draw) .none kV6 dc6 pm6 an6 cd6 ct6), sl6⟩) (c6 : PySem.W.codeIn K cd6 "_law_draw" = true) (k6 : PySem.W.keepIn K (.ref f6) = true)
    (a7 : PySem.W.nsIn K mainGlobals "_law_pick" = some (some (.ref f7))) (l7 : K.lookup f7 = some ⟨oc7, od7, .func (PySem.W.fnOf "_law_pick" "_law_pick" (defArgs s__law_pick) (defBody s__law_pick) (defScope s__law_pick) .none kV7 dc7 pm7 an7 cd7 ct7), sl7⟩) (c7 : PySem.W.codeIn K cd7 "_law_pick" = true) (k7 : PySem.W.keepIn K (.ref f7) = true)
    (a8 : PySem.W.nsIn K mainGlobals "_law_is_whole" = some (some (.ref f8))) (l8 : K.lookup f8 = some ⟨oc8, od8, .func (PySem.W.fnOf "_law_is_whole" "_law_is_whole" (defArgs s__law_is_whole) (defBody s__law_is_whole) (defScope s__law_is_whole) .none kV8 dc8 pm8 an8 cd8 ct8), sl8⟩) (c8 : PySem.W.codeIn K cd8 "_law_is_whole" = true) (k8 : PySem.W.keepIn K (.ref f8) = true)
    (a9 : PySem.W.nsIn K mainGlobals "_law_is_prime" = some (some (.ref f9))) (l9 : K.lookup f9 = some ⟨oc9, od9, .func (PySem.W.fnOf "_law_is_prime" "_law_is_prime" (defArgs s__law_is_prime) (defBody s__law_is_prime) (defScope s__law_is_prime) .none kV9 dc9 pm9 an9 cd9 ct9), sl9⟩) (c9 : PySem.W.codeIn K cd9 "_law_is_prime" = true) (k9 : PySem.W.keepIn K (.ref f9) = true)
    (a10 : PySem.W.nsIn K mainGlobals "_law_primes_right" = some (some (.ref f10))) (l10 : K.lookup f10 = some ⟨oc10, od10, .func (PySem.W.fnOf "_law_primes_right" "_law_primes_right" (defArgs s__law_primes_right) (defBody s__law_primes_right) (defScope s__law_primes_right) .none kV10 dc10 pm10 an10 cd10 ct10), sl10⟩) (c10 : PySem.W.codeIn K cd10 "_law_primes_right" = true) (k10 : PySem.W.keepIn K (.ref f10) = true)
    (a11 : PySem.W.nsIn K mainGlobals "_law_inverted" = some (some (.ref f11))) (l11 : K.lookup f11 = some ⟨oc11, od11, .func (PySem.W.fnOf "_law_inverted" "_law_inverted" (defArgs s__law_inverted) (defBody s__law_inverted) (defScope s__law_inverted) .none kV11 dc11 pm11 an11 cd11 ct11), sl11⟩) (c11 : PySem.W.codeIn K cd11 "_law_inverted" = true) (k11 : PySem.W.keepIn K (.ref f11) = true)
    (a12 : PySem.W.nsIn K mainGlobals "_law_inverse_right" = some (some (.ref f12))) (l12 : K.lookup f12 = some ⟨oc12, od12, .func (PySem.W.fnOf "_law_inverse_right" "_law_inverse_right" (defArgs s__law_inverse_right) (defBody s__law_inverse_right) (defScope s__law_inverse_right) .none kV12 dc12 pm12 an12 cd12 ct12), sl12⟩) (c12 : PySem.W.codeIn K cd12 "_law_inverse_right" = true) (k12 : PySem.W.keepIn K (.ref f12) = true)
    (a13 : PySem.W.nsIn K mainGlobals "_law_ways" = some (some (.ref f13))) (l13 : K.lookup f13 = some ⟨oc13, od13, .func (PySem.W.fnOf "_law_ways" "_law_ways" (defArgs s__law_ways) (defBody s__law_ways) (defScope s__law_ways) .none kV13 dc13 pm13 an13 cd13 ct13), sl13⟩) (c13 : PySem.W.codeIn K cd13 "_law_ways" = true) (k13 : PySem.W.keepIn K (.ref f13) = true)
    (a14 : PySem.W.nsIn K mainGlobals "law" = some (some (.ref f14))) (l14 : K.lookup f14 = some ⟨oc14, od14, .func (PySem.W.fnOf "law" "law" (defArgs s_law) (defBody s_law) (defScope s_law) .none kV14 dc14 pm14 an14 cd14 ct14), sl14⟩) (c14 : PySem.W.codeIn K cd14 "law" = true) (k14 : PySem.W.keepIn K (.ref f14) = true)
    (zb_len : PySem.W.nsIn K mainGlobals "len" = some none)
    (zb_int : PySem.W.nsIn K mainGlobals "int" = some none)
    (zb_list : PySem.W.nsIn K mainGlobals "list" = some none)
    (zb_range : PySem.W.nsIn K mainGlobals "range" = some none)
    (zb_zip : PySem.W.nsIn K mainGlobals "zip" = some none)
    (zb_isinstance : PySem.W.nsIn K mainGlobals "isinstance" = some none)
    (zb_bool : PySem.W.nsIn K mainGlobals "bool" = some none)
    (zb_min : PySem.W.nsIn K mainGlobals "min" = some none)
    (zb_ValueError : PySem.W.nsIn K mainGlobals "ValueError" = some none)
    (zc_MOST_PRIME : PySem.W.nsIn K mainGlobals "MOST_PRIME" = some (some (.int 65521 tk_MOST_PRIME)))
    (aR : PySem.W.nsIn K mainGlobals "Refused" = some (some (.ref CR)))
    (aC_NoInverse : PySem.W.nsIn K mainGlobals "NoInverse" = some (some (.ref C_NoInverse)))
    (xL_NoInverse : K.lookup C_NoInverse = some (excClassObj nm_NoInverse q_NoInverse C_NoInverse N_NoInverse bs_NoInverse [.ref CR, .type "ValueError", .type "Exception", .type "BaseException", .type "object"] true sn_NoInverse sb_NoInverse ab_NoInverse col_NoInverse dd_NoInverse m0_NoInverse m1_NoInverse m2_NoInverse m3_NoInverse m5_NoInverse "ValueError.__new__"))
    (sa_NoInverse : PySem.W.findIn K (.ref C_NoInverse) "__setattr__" = some (some (.builtin "object.__setattr__")))
    (ga_NoInverse : PySem.W.findIn K (.ref C_NoInverse) "__getattribute__" = some (some (.builtin "BaseException.__getattribute__")))
    (gg_NoInverse : PySem.W.findIn K (.ref C_NoInverse) "__getattr__" = some none)
    (nW_NoInverse : PySem.W.findIn K (.ref C_NoInverse) "what" = some none)
    (iC_NoInverse : PySem.W.findIn K (.ref C_NoInverse) "__init__" = some (some (.ref fI)))
    (kC_NoInverse : PySem.W.keepIn K (.ref C_NoInverse) = true)
    (eC_NoInverse : PySem.W.subIn K (.ref C_NoInverse) (.type "BaseException") = some true)
    (tC_NoInverse : PySem.W.typeIn K (.ref C_NoInverse) = some (.type "type"))
    (hC_NoInverse : PySem.W.hasDictIn K C_NoInverse = true)
    (sC_NoInverse : PySem.W.subIn K (.ref C_NoInverse) (.ref C_NoInverse) = some true)
    (cC_NoInverse : PySem.W.findIn K (.ref C_NoInverse) "__class__" = some (some (.builtin "object.__class__")))
    (mC_NoInverse : PySem.W.mroIn K C_NoInverse (.type "object") = some true)
    (rC_NoInverse : PySem.W.kitOne K (.ref C_NoInverse) (.ref CR) = some true)
    (vC_NoInverse : PySem.W.kitOne K (.ref C_NoInverse) (.type "ValueError") = some true)
    (tI : PySem.W.typeIn K (.ref fI) = some (.type "function")) (lI : K.lookup fI = some ⟨ocI, odI, .func (PySem.W.fnOf "__init__" "Refused.__init__" (defArgs s_Refused___init__) (defBody s_Refused___init__) (defScope s_Refused___init__) .none kVI dcI pmI anI cdI ctI), slI⟩) (cI : PySem.W.codeIn K cdI "Refused.__init__" = true) (kI : PySem.W.keepIn K (.ref fI) = true)
    (gs : PySem.W.specialIn K (.builtin "object.__class__") "__get__" = some (some (.builtin "getset_descriptor.__get__"))) (gt : PySem.W.takesIn K (.builtin "object.__class__") = some true) :
    ∃ fd : FuncData, (∀ (s : Shared) (v : Value), BindsTo s fd ⟨[v], []⟩ [("script", v)]) ∧ ∀ base : Heap, K.In base → base.Ns mainGlobals mg → FnOk l.prog w K mg base CX0 6 fa fd ["script"] (spLaw K) := by
  have e := hfa.symm.trans (PySem.W.mg_of X G a14)
  cases e
  have T : Txt K mg := { b_len := PySem.W.mg_none_of X G zb_len, b_int := PySem.W.mg_none_of X G zb_int, b_list := PySem.W.mg_none_of X G zb_list, b_range := PySem.W.mg_none_of X G zb_range, b_zip := PySem.W.mg_none_of X G zb_zip, b_isinstance := PySem.W.mg_none_of X G zb_isinstance, b_bool := PySem.W.mg_none_of X G zb_bool, b_min := PySem.W.mg_none_of X G zb_min, b_ValueError := PySem.W.mg_none_of X G zb_ValueError, c_MOST_PRIME := ⟨_, PySem.W.mg_of X G zc_MOST_PRIME⟩ }
  have F0 := fun_mk (st := s_is_number) l0 c0 k0
  have D_is_number : DefAt K mg "is_number" s_is_number ["thing"] f0 _ := ⟨F0, F0.binds (ps := ["thing"]) fun _ _ _ _ _ _ us hl => match us, hl with | [_], _ => rfl, PySem.W.mg_of X G a0⟩
  have F1 := fun_mk (st := s_number_between) l1 c1 k1
  have D_number_between : DefAt K mg "number_between" s_number_between ["thing", "least", "most"] f1 _ := ⟨F1, F1.binds (ps := ["thing", "least", "most"]) fun _ _ _ _ _ _ us hl => match us, hl with | [_, _, _], _ => rfl, PySem.W.mg_of X G a1⟩
  have F2 := fun_mk (st := s_is_prime) l2 c2 k2
  have D_is_prime : DefAt K mg "is_prime" s_is_prime ["n"] f2 _ := ⟨F2, F2.binds (ps := ["n"]) fun _ _ _ _ _ _ us hl => match us, hl with | [_], _ => rfl, PySem.W.mg_of X G a2⟩
  have F3 := fun_mk (st := s_inverse) l3 c3 k3
  have D_inverse : DefAt K mg "inverse" s_inverse ["a", "p"] f3 _ := ⟨F3, F3.binds (ps := ["a", "p"]) fun _ _ _ _ _ _ us hl => match us, hl with | [_, _], _ => rfl, PySem.W.mg_of X G a3⟩
  have F4 := fun_mk (st := s_choose) l4 c4 k4
  have D_choose : DefAt K mg "choose" s_choose ["n", "j", "p"] f4 _ := ⟨F4, F4.binds (ps := ["n", "j", "p"]) fun _ _ _ _ _ _ us hl => match us, hl with | [_, _, _], _ => rfl, PySem.W.mg_of X G a4⟩
  have F5 := fun_mk (st := s__law_pool) l5 c5 k5
  have D__law_pool : DefAt K mg "_law_pool" s__law_pool ["script"] f5 _ := ⟨F5, F5.binds (ps := ["script"]) fun _ _ _ _ _ _ us hl => match us, hl with | [_], _ => rfl, PySem.W.mg_of X G a5⟩
  have F6 := fun_mk (st := s__law_draw) l6 c6 k6
  have D__law_draw : DefAt K mg "_law_draw" s__law_draw ["pool", "many"] f6 _ := ⟨F6, F6.binds (ps := ["pool", "many"]) fun _ _ _ _ _ _ us hl => match us, hl with | [_, _], _ => rfl, PySem.W.mg_of X G a6⟩
  have F7 := fun_mk (st := s__law_pick) l7 c7 k7
  have D__law_pick : DefAt K mg "_law_pick" s__law_pick ["pool", "things"] f7 _ := ⟨F7, F7.binds (ps := ["pool", "things"]) fun _ _ _ _ _ _ us hl => match us, hl with | [_, _], _ => rfl, PySem.W.mg_of X G a7⟩
  have F8 := fun_mk (st := s__law_is_whole) l8 c8 k8
  have D__law_is_whole : DefAt K mg "_law_is_whole" s__law_is_whole ["thing"] f8 _ := ⟨F8, F8.binds (ps := ["thing"]) fun _ _ _ _ _ _ us hl => match us, hl with | [_], _ => rfl, PySem.W.mg_of X G a8⟩
  have F9 := fun_mk (st := s__law_is_prime) l9 c9 k9
  have D__law_is_prime : DefAt K mg "_law_is_prime" s__law_is_prime ["n"] f9 _ := ⟨F9, F9.binds (ps := ["n"]) fun _ _ _ _ _ _ us hl => match us, hl with | [_], _ => rfl, PySem.W.mg_of X G a9⟩
  have F10 := fun_mk (st := s__law_primes_right) l10 c10 k10
  have D__law_primes_right : DefAt K mg "_law_primes_right" s__law_primes_right ["pool"] f10 _ := ⟨F10, F10.binds (ps := ["pool"]) fun _ _ _ _ _ _ us hl => match us, hl with | [_], _ => rfl, PySem.W.mg_of X G a10⟩
  have F11 := fun_mk (st := s__law_inverted) l11 c11 k11
  have D__law_inverted : DefAt K mg "_law_inverted" s__law_inverted ["a", "p"] f11 _ := ⟨F11, F11.binds (ps := ["a", "p"]) fun _ _ _ _ _ _ us hl => match us, hl with | [_, _], _ => rfl, PySem.W.mg_of X G a11⟩
  have F12 := fun_mk (st := s__law_inverse_right) l12 c12 k12
  have D__law_inverse_right : DefAt K mg "_law_inverse_right" s__law_inverse_right ["a", "p"] f12 _ := ⟨F12, F12.binds (ps := ["a", "p"]) fun _ _ _ _ _ _ us hl => match us, hl with | [_, _], _ => rfl, PySem.W.mg_of X G a12⟩
  have F13 := fun_mk (st := s__law_ways) l13 c13 k13
  have D__law_ways : DefAt K mg "_law_ways" s__law_ways ["n", "j"] f13 _ := ⟨F13, F13.binds (ps := ["n", "j"]) fun _ _ _ _ _ _ us hl => match us, hl with | [_, _], _ => rfl, PySem.W.mg_of X G a13⟩
  have F14 := fun_mk (st := s_law) l14 c14 k14
  have D_law : DefAt K mg "law" s_law ["script"] fa _ := ⟨F14, F14.binds (ps := ["script"]) fun _ _ _ _ _ _ us hl => match us, hl with | [_], _ => rfl, PySem.W.mg_of X G a14⟩
  have gR := PySem.W.mg_of X G aR
  have F_init := fun_mk (st := s_Refused___init__) lI cI kI
  have b_init := F_init.binds (ps := ["self", "what"]) fun _ _ _ _ _ _ us hl => match us, hl with | [_, _], _ => rfl
  have X_NoInverse : ErrC K mg "NoInverse" C_NoInverse fI CR := { T := ⟨⟨nm_NoInverse, q_NoInverse, N_NoInverse, bs_NoInverse, _, sn_NoInverse, sb_NoInverse, ab_NoInverse, col_NoInverse, dd_NoInverse, m0_NoInverse, m1_NoInverse, m2_NoInverse, m3_NoInverse, m5_NoInverse, xL_NoInverse, by rfl⟩, sa_NoInverse, eC_NoInverse, tC_NoInverse, kC_NoInverse⟩, iC := iC_NoInverse, tI := tI, g := PySem.W.mg_of X G aC_NoInverse, nW := nW_NoInverse, X := ⟨ga_NoInverse, gg_NoInverse, eC_NoInverse, hC_NoInverse, cC_NoInverse, gs, gt, mC_NoInverse⟩, XF := ⟨ga_NoInverse, gg_NoInverse, eC_NoInverse, hC_NoInverse⟩, te := PySem.W.exm_ref eC_NoInverse hC_NoInverse tC_NoInverse sC_NoInverse, isR := rC_NoInverse, isV := vC_NoInverse }
  refine ⟨(PySem.W.fnOf "law" "law" (defArgs s_law) (defBody s_law) (defScope s_law) .none kV14 dc14 pm14 an14 cd14 ct14), fun s v => .of_eq rfl, fun base _ _ => ?_⟩
  have G_is_number := ok_is_number (P := l.prog) (w := w) (base := base) D_is_number T
  have G_number_between := ok_number_between (P := l.prog) (w := w) (base := base) D_number_between T G_is_number
  have G_is_prime := ok_is_prime (P := l.prog) (w := w) (base := base) D_is_prime T G_number_between
  have G_inverse := ok_inverse (P := l.prog) (w := w) (base := base) D_inverse T X_NoInverse (ok_init (P := l.prog) (w := w) (base := base) F_init) b_init
  have G_choose := ok_choose (P := l.prog) (w := w) (base := base) D_choose T
  have G_pool := ok__law_pool (P := l.prog) (w := w) (base := base) D__law_pool T
  have G_draw := ok__law_draw (P := l.prog) (w := w) (base := base) D__law_draw T
  have G_pick := ok__law_pick (P := l.prog) (w := w) (base := base) D__law_pick T G_draw
  have G_whole := ok__law_is_whole (P := l.prog) (w := w) (base := base) D__law_is_whole T
  have G_lprime := ok__law_is_prime (P := l.prog) (w := w) (base := base) D__law_is_prime T G_whole
  have G_primes := ok__law_primes_right (P := l.prog) (w := w) (base := base) D__law_primes_right T G_draw G_pick G_is_prime G_lprime
  have G_inverted := ok__law_inverted (P := l.prog) (w := w) (base := base) D__law_inverted T X_NoInverse gR G_inverse
  have G_invright := ok__law_inverse_right (P := l.prog) (w := w) (base := base) D__law_inverse_right T G_inverted G_whole
  have G_ways := ok__law_ways (P := l.prog) (w := w) (base := base) D__law_ways T
  exact ok_law (P := l.prog) (w := w) (base := base) D_law T G_pool G_draw G_pick G_primes G_invright G_choose G_whole G_ways
theorem walk {l : PySem.W.OpenLaw} {q : Program} {loose : List Str} {XP : (Str → Option Value) → Heap → Prop} {YP : World → Heap → Prop} {d : DefRec} {K : Params → PySem.W.Frag} (hn : l.most = some 63) (hdf : d.params.defaults = [])
    (hY : ∀ (w : World) (h : Heap), YP w h → (K w.params).In h)
    (F : ∀ (w : World) (mg : Str → Option Value) (fa : Addr) (h : Heap), (K w.params).In h → h.Ns mainGlobals mg → mg d.name = some (.ref fa) →
      ∃ fd : FuncData, (∀ (s : Shared) (u : Value), BindsTo s fd ⟨[u], []⟩ [("script", u)]) ∧ ∀ base : Heap, (K w.params).In base → base.Ns mainGlobals mg → FnOk l.prog w (K w.params) mg base CX0 6 fa fd ["script"] (spLaw (K w.params))) :
    PySem.W.WalkO q loose XP YP l.row.toRowW d [] (fun f vs => PySem.call f vs) :=
  L2.walk_of (n := 63) (k := 6) (x := "script") (CX := fun _ => CX0) (sp := fun w => spLaw (K w.params)) hn (by decide) hdf ⟨rfl, by decide, by decide⟩ hY F (fun _ _ a ns hl _ hS => ⟨a, ns, rfl, hS, hl, fun _ => rfl⟩) fun _ _ _ _ _ z => z
end Lw

open PySem PySem.W PyProof.Rows in
set_option maxRecDepth 100000 in
set_option maxHeartbeats 0 in
theorem PySem.Challenge.cw_firstsafe_k01_primes_and_inverses_holds : PySem.Challenge.rw_firstsafe_k01_primes_and_inverses.Holds := by
  w_on; o_law; k_head; (case hw => w_witness2)
  k_fill
  refine Lw.walk (l := PySem.Challenge.rw_firstsafe_k01_primes_and_inverses) rfl rfl (fun w h Y => PySem.W.kIn_of Y) ?F
  case F =>
    intro w mg fa h KX G hmg
    refine' Lw.all_mk KX G hmg ?a0 ?l0 ?c0 ?k0 ?a1 ?l1 ?c1 ?k1 ?a2 ?l2 ?c2 ?k2 ?a3 ?l3 ?c3 ?k3 ?a4 ?l4 ?c4 ?k4 ?a5 ?l5 ?c5 ?k5 ?a6 ?l6 ?c6 ?k6 ?a7 ?l7 ?c7 ?k7 ?a8 ?l8 ?c8 ?k8 ?a9 ?l9 ?c9 ?k9 ?a10 ?l10 ?c10 ?k10 ?a11 ?l11 ?c11 ?k11 ?a12 ?l12 ?c12 ?k12 ?a13 ?l13 ?c13 ?k13 ?a14 ?l14 ?c14 ?k14 ?zb_len ?zb_int ?zb_list ?zb_range ?zb_zip ?zb_isinstance ?zb_bool ?zb_min ?zb_ValueError ?zc_MOST_PRIME ?aR ?aC_NoInverse ?xL_NoInverse ?sa_NoInverse ?ga_NoInverse ?gg_NoInverse ?nW_NoInverse ?iC_NoInverse ?kC_NoInverse ?eC_NoInverse ?tC_NoInverse ?hC_NoInverse ?sC_NoInverse ?cC_NoInverse ?mC_NoInverse ?rC_NoInverse ?vC_NoInverse ?tI ?lI ?cI ?kI ?gs ?gt
    (case a0 => k_is)
    (case l0 => k_is)
    (case c0 => k_is)
    (case k0 => k_is)
    (case a1 => k_is)
    (case l1 => k_is)
    (case c1 => k_is)
    (case k1 => k_is)
    (case a2 => k_is)
    (case l2 => k_is)
    (case c2 => k_is)
    (case k2 => k_is)
    (case a3 => k_is)
    (case l3 => k_is)
    (case c3 => k_is)
    (case k3 => k_is)
    (case a4 => k_is)
    (case l4 => k_is)
    (case c4 => k_is)
    (case k4 => k_is)
    (case a5 => k_is)
    (case l5 => k_is)
    (case c5 => k_is)
    (case k5 => k_is)
    (case a6 => k_is)
    (case l6 => k_is)
    (case c6 => k_is)
    (case k6 => k_is)
    (case a7 => k_is)
    (case l7 => k_is)
    (case c7 => k_is)
    (case k7 => k_is)
    (case a8 => k_is)
    (case l8 => k_is)
    (case c8 => k_is)
    (case k8 => k_is)
    (case a9 => k_is)
    (case l9 => k_is)
    (case c9 => k_is)
    (case k9 => k_is)
    (case a10 => k_is)
    (case l10 => k_is)
    (case c10 => k_is)
    (case k10 => k_is)
    (case a11 => k_is)
    (case l11 => k_is)
    (case c11 => k_is)
    (case k11 => k_is)
    (case a12 => k_is)
    (case l12 => k_is)
    (case c12 => k_is)
    (case k12 => k_is)
    (case a13 => k_is)
    (case l13 => k_is)
    (case c13 => k_is)
    (case k13 => k_is)
    (case a14 => k_is)
    (case l14 => k_is)
    (case c14 => k_is)
    (case k14 => k_is)
    (case zb_len => k_is)
    (case zb_int => k_is)
    (case zb_list => k_is)
    (case zb_range => k_is)
    (case zb_zip => k_is)
    (case zb_isinstance => k_is)
    (case zb_bool => k_is)
    (case zb_min => k_is)
    (case zb_ValueError => k_is)
    (case zc_MOST_PRIME => k_is)
    (case aR => k_is)
    (case aC_NoInverse => k_is)
    (case xL_NoInverse => k_is)
    (case sa_NoInverse => k_is)
    (case ga_NoInverse => k_is)
    (case gg_NoInverse => k_is)
    (case nW_NoInverse => k_is)
    (case iC_NoInverse => k_is)
    (case kC_NoInverse => k_is)
    (case eC_NoInverse => k_is)
    (case tC_NoInverse => k_is)
    (case hC_NoInverse => k_is)
    (case sC_NoInverse => first | k_is | kit_is | rfl)
    (case cC_NoInverse => k_is)
    (case mC_NoInverse => k_is)
    (case rC_NoInverse => first | k_is | kit_is | rfl)
    (case vC_NoInverse => first | k_is | kit_is | rfl)
    (case tI => k_is)
    (case lI => k_is)
    (case cI => k_is)
    (case kI => k_is)
    (case gs => k_is)
    (case gt => k_is)
