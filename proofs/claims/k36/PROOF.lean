import PyProof.Rows.All
import Wide.All
import OpenK.AllK
import Wide.FinOn
import HandS.ForMost
import HandS.IsInst
import HandS.StrMore
import HandS.Codes
import HandS.Evl
import HandS.TupAny
import HandS.TupMul
import HandS.Walk
import PyProof.Rows.StrJoinRep
import HandS.Lambda
import HandS.EndTab
import HandS.Conv
import KE.SortKeyHeap
import HandS.HotCalls
import HandS.ExcIs
import HandS.Comp
import HandS.WordsExc
import HandS.WideBits
import HandS.More
import PyProof.ReprLen
import PyProof.ReprRoads
import HandS.WordsDict
import HandS.Small
import PyProof.CallStr
import PyProof.ToksMono
import PyProof.StrCalls6
import OpenK.ZHead
import PyProof.StrLawsChain
import PyProof.FitsReplace
import PyProof.StrOps
import PyProof.FString3
import PyProof.Raises
import HandS.FStr
import HandS.ExcCtx
import HandS.TryOnly
import HandS.Text
import PyProof.StrLawsIn
import PyProof.Rows.StrPartPair
import HandS.Style
import PySem.Challenge.RW_farpage_k36_gathering_refused
set_option Elab.async false
set_option linter.all false
set_option maxRecDepth 100000
set_option maxHeartbeats 4000000
/-! Rules of our own over the hand layer: a sign times an int, list(text), ljust with a sign. -/
namespace Fp
open PySem L2 PyProof.Rows
/-- a text by its codes -/
def sOf (l : List Nat) : Str := ⟨l.toArray⟩
theorem sOf_list (l : List Nat) : (sOf l).cps.toList = l := by simp [sOf]
theorem sOf_len (l : List Nat) : (sOf l).length = l.length := by simp [sOf, Str.length]
theorem of_list {z : Str} {l : List Nat} (h : z.cps.toList = l) : z = sOf l := str_of_list (by rw [h, sOf_list])
theorem sOf_inj {l m : List Nat} (h : sOf l = sOf m) : l = m := by
  have := congrArg (fun z => z.cps.toList) h
  simpa [sOf] using this
theorem sOf_app (l m : List Nat) : sOf l ++ sOf m = sOf (l ++ m) := by
  apply of_list
  show ((sOf l) ++ (sOf m)).cps.toList = l ++ m
  rw [show ((sOf l) ++ (sOf m)).cps = (sOf l).cps ++ (sOf m).cps from rfl]
  simp [sOf]
section
variable {X : Cx}
theorem op_mul_str : OpR X (binaryOp .Mult) (fun x y H Q => ∃ c n, x = .str (sOf [c]) ∧ y = .int n ∧ (-100000 ≤ n ∧ n ≤ 100000) ∧ Q (.str (sOf (List.replicate n.toNat c))) H) := by
  intro pins s σ H x y v u Q I rx ry h
  obtain ⟨c, n, rfl, rfl, hz, q⟩ := h
  obtain ⟨t, rfl⟩ := rx
  obtain ⟨t', rfl⟩ := ry
  refine SB.mul (mulOk_of 1 100000 (by rw [sOf_len]; exact Nat.le_refl _) (by omega) (by omega) (by decide) (by decide)) fun t' k => ?_
  have e : Txt.mul (sOf [c]) n = sOf (List.replicate n.toNat c) := of_list (mul_one_list c n)
  rw [e]
  exact ⟨.str (sOf (List.replicate n.toNat c)), H, I.tok _, ⟨_, rfl⟩, q⟩
theorem padOk {i : Int} (h0 : 0 ≤ i) (h1 : i ≤ 100000) : PadOk i = true := padOk_of (by omega) (by omega)
theorem mt_ljustF : MtR X "str.ljust" (fun x xs H Q => ∃ (l : List Nat) (i : Int) (c : Nat), x = .str (sOf l) ∧ xs = [.int i, .str (sOf [c])] ∧ (0 ≤ i ∧ i ≤ 100000) ∧ Q (.str (sOf (l ++ List.replicate (i.toNat - l.length) c))) H) := by
  intro pins s σ H x xs v us Q I rx rs h
  obtain ⟨l, i, c, rfl, rfl, hz, q⟩ := h
  obtain ⟨t, rfl⟩ := rx
  obtain ⟨u, w', rfl, ⟨t', rfl⟩, ⟨t'', rfl⟩⟩ := vals2 rs
  refine ljust_fill (padOk hz.1 hz.2) (sOf_len _) fun t' k => ?_
  have e : Txt.ljustF (sOf l) i ((sOf [c]).cps.getD 0 0) = sOf (l ++ List.replicate (i.toNat - l.length) c) := of_list (by
    rw [ljustF_list, sOf_list, sOf_len]
    rfl)
  rw [e]
  exact ⟨.str (sOf (l ++ List.replicate (i.toNat - l.length) c)), H, I.tok _, ⟨_, rfl⟩, q⟩
theorem vals_signs {acc : List Value} {l : List Nat} (h1 : acc.length = l.length) (h2 : ∀ (j : Nat) v, acc[j]? = some v → ∃ c u, l[j]? = some c ∧ v = .str ⟨#[c]⟩ u) : Vals (l.map fun c => V.str (sOf [c])) acc := by
  induction l generalizing acc with
  | nil =>
    cases acc with
    | nil => exact .nil
    | cons a r => simp at h1
  | cons c r ih =>
    cases acc with
    | nil => simp at h1
    | cons a b =>
      obtain ⟨c', u, e, rfl⟩ := h2 0 a rfl
      have e2 : c' = c := by simpa using e.symm
      subst e2
      exact .cons ⟨u, rfl⟩ (ih (by simpa using h1) fun j v hj => h2 (j + 1) v hj)
theorem call_list_str (hc : X.calm = true) : CallR X (.type "list") (fun xs H Q => ∃ z : List Nat, xs = [.str (sOf z)] ∧ z.length ≤ 100000 ∧ ∀ l, H l = none → Q (.ref l) (upd H l (.lst (z.map fun c => V.str (sOf [c]))))) := by
  intro pins s σ H xs us Q I r h
  obtain ⟨z, rfl, hz, q⟩ := h
  obtain ⟨u, rfl, t, rfl⟩ := vals1 r
  have hl : z.length ≤ sizeLine := Nat.le_trans hz (by decide)
  refine PySem.call_list_str (I.ok.hd hc) (sOf z) t (hn := by show (sOf z).length ≤ sizeLine; rw [sOf_len]; exact hl) fun h' tk acc' c' hk hS' hacc => ?_
  have r' : Vals (z.map fun c => V.str (sOf [c])) acc'.toList := vals_signs (by have := hacc.1; simpa [sOf] using this) fun j v hj => by
    obtain ⟨c, u, e, rfl⟩ := hacc.2 j v (by simpa using hj)
    exact ⟨c, u, by simpa [sOf] using e, rfl⟩
  exact ⟨.ref s.heap.objs.size, _, I.laid (t' := tk) hk (Nat.le_refl _) (show ObjOk X.prog X.w _ h' _ (.lst _) from ⟨by rw [List.length_map]; exact hl, acc'.toList, c', r', by simpa using hS'⟩), rfl, q _ (I.hok.fresh (Nat.le_refl _))⟩
end
/-! ### heaps -/
theorem same_new {H : Hp} {p : Addr} {o : HO} (h : H p = none) : Same H (upd H p o) := fun b x e => by
  rw [upd_ne (ne_of_none e h)]
  exact e
/-- what is new may change -/
theorem Same.mut {H H' : Hp} {p : Addr} {o : HO} (e : Same H H') (h : H p = none) : Same H (upd H' p o) := fun b x hb => by
  rw [upd_ne (ne_of_none hb h)]
  exact e b x hb
/-- a bag of the laws' draws -/
def BagAt (H : Hp) (b : Addr) : Prop := ∃ g s : Int, H b = some (.lst [.int g, .int s]) ∧ 0 ≤ g ∧ 0 ≤ s ∧ s < 1000000000000
/-- the bag has turned, what else stood stands -/
def Bx (b : Addr) (H H' : Hp) : Prop := BagAt H' b ∧ ∀ a o, a ≠ b → H a = some o → H' a = some o
theorem Bx.refl {b : Addr} {H : Hp} (h : BagAt H b) : Bx b H H := ⟨h, fun _ _ _ e => e⟩
theorem Bx.trans {b : Addr} {H H1 H2 : Hp} (x : Bx b H H1) (y : Bx b H1 H2) : Bx b H H2 := ⟨y.1, fun a o n e => y.2 a o n (x.2 a o n e)⟩
theorem Bx.drawn {b : Addr} {H : Hp} {g s : Int} (g0 : 0 ≤ g) (s0 : 0 ≤ s) (s1 : s < 1000000000000) : Bx b H (upd H b (.lst [.int g, .int s])) := ⟨⟨g, s, upd_same, g0, s0, s1⟩, fun a o n e => by
  rw [upd_ne n]
  exact e⟩
theorem Bx.same {b : Addr} {H H1 H2 : Hp} (x : Bx b H H1) (y : Same H1 H2) : Bx b H H2 := by
  obtain ⟨⟨g, s, h, r⟩, k⟩ := x
  exact ⟨⟨g, s, y _ _ h, r⟩, fun a o n e => y _ _ (k a o n e)⟩
/-- from before the bag was made -/
theorem Bx.back {b : Addr} {H0 H H' : Hp} (x : Bx b H H') (y : Same H0 H) (n : H0 b = none) : Same H0 H' := fun a o e => x.2 a o (ne_of_none e n) (y a o e)
theorem Bx.mut {b p : Addr} {H H' : Hp} {o : HO} (x : Bx b H H') (hp : H p = none) (n : p ≠ b) : Bx b H (upd H' p o) := by
  obtain ⟨⟨g, s, h, r⟩, k⟩ := x
  refine ⟨⟨g, s, by rw [upd_ne n.symm]; exact h, r⟩, fun a u m e => ?_⟩
  rw [upd_ne (ne_of_none e hp)]
  exact k a u m e
theorem Bx.free {b p : Addr} {H H' : Hp} (x : Bx b H H') (h : H' p = none) : H p = none := by
  have n : p ≠ b := by
    obtain ⟨g, s, e, _⟩ := x.1
    exact (ne_of_none e h).symm
  cases q : H p with
  | none => rfl
  | some o =>
    rw [x.2 p o n q] at h
    cases h
theorem BagAt.new {H : Hp} {p : Addr} {g s : Int} (g0 : 0 ≤ g) (s0 : 0 ≤ s) (s1 : s < 1000000000000) : BagAt (upd H p (.lst [.int g, .int s])) p := ⟨g, s, upd_same, g0, s0, s1⟩
theorem BagAt.ne {H : Hp} {b p : Addr} (h : BagAt H b) (n : H p = none) : p ≠ b := by
  obtain ⟨g, s, e, _⟩ := h
  exact (ne_of_none e n).symm
/-- a list's own address is no bag's where its items are texts -/
def cells (l : List Nat) : List V := l.map fun c => V.str (sOf [c])
theorem cells_len (l : List Nat) : (cells l).length = l.length := List.length_map ..
theorem cells_set (l : List Nat) (j c : Nat) : (cells l).set j (.str (sOf [c])) = cells (l.set j c) := by
  unfold cells
  rw [List.map_set]
theorem cells_app (l : List Nat) (c : Nat) : cells l ++ [.str (sOf [c])] = cells (l ++ [c]) := by
  unfold cells
  rw [List.map_append]
  rfl
/-- the cells of rows -/
def Cell (c : Nat) : Prop := c = 46 ∨ c = 35
def Row (l : List Nat) : Prop := ∀ c ∈ l, Cell c
theorem Row.set {l : List Nat} {j c : Nat} (h : Row l) (hc : Cell c) : Row (l.set j c) := fun x hx => by
  rcases List.mem_or_eq_of_mem_set hx with e | e
  · exact h x e
  · rw [e]
    exact hc
theorem Row.app {l : List Nat} {c : Nat} (h : Row l) (hc : Cell c) : Row (l ++ [c]) := fun x hx => by
  rcases List.mem_append.mp hx with e | e
  · exact h x e
  · rw [List.mem_singleton.mp e]
    exact hc
theorem Row.rep {n c : Nat} (hc : Cell c) : Row (List.replicate n c) := fun x hx => by
  rw [(List.mem_replicate.mp hx).2]
  exact hc
theorem Row.nil : Row [] := fun _ h => nomatch h
def cellN (i : Int) : Nat := if i = 0 then 46 else 35
theorem cellN_cell (i : Int) : Cell (cellN i) := by
  unfold cellN
  split
  · exact .inl rfl
  · exact .inr rfl
theorem cell_at {i : Int} (h0 : 0 ≤ i) (h1 : i < 2) : atI (Str.ofString ".#").cps.toList i = some (cellN i) := by
  have : i = 0 ∨ i = 1 := by omega
  rcases this with rfl | rfl <;> rfl
theorem two_len : (Str.ofString ".#").length ≤ sizeLine := by decide
theorem sz {n : Nat} (h : n ≤ 100000) : n ≤ sizeLine := Nat.le_trans h (by decide)
theorem szl {n : Nat} (h : n < 100000) : n < sizeLine := Nat.lt_of_lt_of_le h (by decide)
theorem sIx_nat' (n d a : Nat) : HT.sIx n d (some (a : Int)) = min a n := HT.sIx_nat n d a
theorem cutS_nat (l : List Nat) (a b : Nat) (ha : a ≤ l.length) (hb : b ≤ l.length) : cutS (sOf l) (some (a : Int)) (some (b : Int)) = sOf ((l.drop a).take (b - a)) := by
  unfold cutS
  rw [HT.sIx_nat, HT.sIx_nat, sOf_len, sOf_list, Nat.min_eq_left ha, Nat.min_eq_left hb]
  rfl
theorem take_more {α : Type} (l : List α) (i : Nat) (x : α) (h : l[i]? = some x) : l.take (i + 1) = l.take i ++ [x] := by
  rw [List.take_add_one, h]
  rfl
theorem range_more {α : Type} (f : Nat → α) (i : Nat) : (List.range (i + 1)).map f = (List.range i).map f ++ [f i] := by
  rw [List.range_succ, List.map_append]
  rfl
theorem join_cells : ∀ l : List Nat, Txt.join (Str.ofString "") (l.map fun c => sOf [c]) = sOf l := by
  intro l
  show Builtin.Str.glued (Str.ofString "") (l.map fun c => sOf [c]) = sOf l
  rw [StrLaws.glued_eq_join]
  induction l with
  | nil => rfl
  | cons c r ih =>
    cases r with
    | nil => rfl
    | cons d r =>
      show sOf [c] ++ Str.ofString "" ++ Str.join (Str.ofString "") (List.map (fun c => sOf [c]) (d :: r)) = sOf (c :: d :: r)
      rw [ih, show (Str.ofString "") = sOf [] from rfl, sOf_app, sOf_app]
      rfl
theorem cells_strs (l : List Nat) : cells l = (l.map fun c => sOf [c]).map V.str := by
  rw [List.map_map]
  rfl
theorem ones_sum (l : List Nat) : ((l.map fun c => sOf [c]).map (·.length)).sum = l.length := by
  induction l with
  | nil => rfl
  | cons c r ih =>
    rw [List.map_cons, List.map_cons, List.sum_cons, ih, sOf_len, List.length_cons]
    show 1 + r.length = r.length + 1
    omega
theorem join_size {l : List Nat} (h : l.length ≤ 100000) : ((l.map fun c => sOf [c]).map (·.length)).sum + (l.map fun c => sOf [c]).length * (Str.ofString "").length ≤ 16777216 := by
  rw [ones_sum, show (Str.ofString "").length = 0 from rfl]
  omega
theorem rep_one (n : Nat) (c : Nat) : (List.replicate n [V.str (sOf [c])]).flatten = cells (List.replicate n c) := by
  induction n with
  | zero => rfl
  | succ k ih =>
    rw [List.replicate_succ, List.flatten_cons, ih, List.replicate_succ]
    rfl

/-! ### lists and tuples of texts -/
def sV (l : List Nat) : V := .str (sOf l)
def sD (l : List Nat) : PyData := .str (sOf l)
theorem dp_rows {K : PySem.W.Frag} {H : Hp} : ∀ rows : List (List Nat), DpAll K H (rows.map sV) (rows.map sD)
  | [] => .nil
  | r :: rs => .cons (.str _) (dp_rows rs)
def Codes (l : List Nat) : Prop := ∀ c ∈ l, c < 128
theorem strOk_of {l : List Nat} (h : Codes l) : PyData.strOk (sOf l) = true := by
  unfold PyData.strOk sOf
  rw [Array.all_eq_true']
  intro c hc
  have h2 := h c (by simpa using hc)
  exact decide_eq_true (by omega)
theorem lay_rows : ∀ {rows : List (List Nat)}, (∀ r ∈ rows, Codes r) → PyData.canLayAll0 (rows.map sD) = true
  | [], _ => by simp [PyData.canLayAll0]
  | r :: rs, h => by
    have h1 : PyData.canLay0 (sD r) = true := by
      show PyData.canLay0 (.str (sOf r)) = true
      simp only [PyData.canLay0]
      exact strOk_of (h r (List.mem_cons_self ..))
    have h2 := lay_rows (rows := rs) fun x hx => h x (List.mem_cons_of_mem _ hx)
    simp only [List.map_cons, PyData.canLayAll0, h1, h2, Bool.and_true]
theorem depth_rows : ∀ rows : List (List Nat), PyData.depthAll (rows.map sD) = 0
  | [] => by simp [PyData.depthAll]
  | r :: rs => by
    have h := depth_rows rs
    simp only [List.map_cons, PyData.depthAll, h, sD, PyData.depth]
    rfl
theorem shaped_tup {rows : List (List Nat)} (h : ∀ r ∈ rows, Codes r) : SeqAt.shaped (.tuple (rows.map sD)) = true := by
  show (PyData.canLay0 (.tuple (rows.map sD)) && decide (PyData.depth (.tuple (rows.map sD)) ≤ 64)) = true
  rw [Bool.and_eq_true]
  refine ⟨by simp only [PyData.canLay0]; exact lay_rows h, decide_eq_true ?_⟩
  simp only [PyData.depth, depth_rows]
  omega
theorem shaped_lst {rows : List (List Nat)} (h : ∀ r ∈ rows, Codes r) : SeqAt.shaped (.list (rows.map sD)) = true := by
  show (PyData.canLay0 (.list (rows.map sD)) && decide (PyData.depth (.list (rows.map sD)) ≤ 64)) = true
  rw [Bool.and_eq_true]
  refine ⟨by simp only [PyData.canLay0]; exact lay_rows h, decide_eq_true ?_⟩
  simp only [PyData.depth, depth_rows]
  omega
theorem eqv_tup {rows : List (List Nat)} (h : ∀ r ∈ rows, Codes r) : PyData.eqv (.tuple (rows.map sD)) (.tuple (rows.map sD)) = true := SeqAt.eqv_refl _ (by simp only [PyData.canLay0]; exact lay_rows h)
theorem eqv_lst {rows : List (List Nat)} (h : ∀ r ∈ rows, Codes r) : PyData.eqv (.list (rows.map sD)) (.list (rows.map sD)) = true := SeqAt.eqv_refl _ (by simp only [PyData.canLay0]; exact lay_rows h)
theorem Row.codes {l : List Nat} (h : Row l) : Codes l := fun c hc => by
  rcases h c hc with e | e <;> rw [e] <;> decide
theorem same_t {K : PySem.W.Frag} {H H' : Hp} {a : Addr} {xs : List V} (e : Same H H') (h : SqT K H a xs) : SqT K H' a xs := Evl.ex_t e h
theorem cut1 (xs : List V) : cutV xs (some 1) none = xs.drop 1 := by
  unfold cutV
  rw [show HT.sIx xs.length 0 (some 1) = min 1 xs.length from HT.sIx_nat xs.length 0 1, HT.sIx_none]
  cases xs with
  | nil => rfl
  | cons x r =>
    rw [show min 1 (x :: r).length = 1 by
      rw [List.length_cons]
      omega]
    show (List.take ((x :: r).length - 1) r) = r
    rw [List.length_cons, Nat.add_sub_cancel]
    exact List.take_length

/-! ### tuples of any kind, texts times an int -/
section
variable {X : Cx}
theorem cutV_whole {xs : List V} {lo hi : Option Int} (h : HT.sIx xs.length 0 lo = 0 ∧ HT.sIx xs.length xs.length hi = xs.length) : cutV xs lo hi = xs := by
  unfold cutV
  rw [h.1, h.2]
  show (xs.drop 0).take (xs.length - 0) = xs
  rw [List.drop_zero, Nat.sub_zero, List.take_length]
theorem sl_tupW : SlR X (fun x lo hi H Q => ∃ a xs, x = .ref a ∧ H a = some (.tup xs) ∧ ∀ q H', Same H H' → H' q = some (.tup (cutV xs lo hi)) → Q (.ref q) H') := by
  intro pins s σ H x v vl vu lo hi sl Q I rx hs pl pu h
  obtain ⟨a, xs, rfl, hx, q⟩ := h
  refine sl_tupA pins s σ H _ v vl vu lo hi sl Q I rx hs pl pu ⟨a, xs, rfl, .inl (.inl hx), fun e => ?_, fun e p hp => ?_⟩
  · exact q a H (Same.refl H) (by rw [cutV_whole e]; exact hx)
  · exact q p _ (same_new hp) upd_same
theorem op_catW : OpR X (binaryOp .Add) (fun x y H Q => ∃ a b xs ys, x = .ref a ∧ y = .ref b ∧ H a = some (.tup xs) ∧ H b = some (.tup ys) ∧ xs.length + ys.length ≤ 100000 ∧ ∀ q H', Same H H' → H' q = some (.tup (xs ++ ys)) → Q (.ref q) H') := by
  intro pins s σ H x y v u Q I rx ry h
  obtain ⟨a, b, xs, ys, rfl, rfl, ha, hb, hz, q⟩ := h
  refine op_catA pins s σ H _ _ v u Q I rx ry ⟨a, b, xs, ys, rfl, rfl, .inl (.inl ha), .inl (.inl hb), sz hz, fun e => ?_, fun _ e => ?_, fun _ _ p hp => ?_⟩
  · subst e
    exact q b H (Same.refl H) hb
  · subst e
    exact q a H (Same.refl H) (by rw [List.append_nil]; exact ha)
  · exact q p _ (same_new hp) upd_same
theorem op_mul_txt : OpR X (binaryOp .Mult) (fun x y H Q => ∃ (z : Str) (n : Int), x = .str z ∧ y = .int n ∧ (0 ≤ n ∧ n ≤ 1000 ∧ z.length ≤ 1000) ∧ ∀ m : Str, (m.length : Int) = (z.length : Int) * n → Q (.str m) H) := by
  intro pins s σ H x y v u Q I rx ry h
  obtain ⟨z, n, rfl, rfl, hz, q⟩ := h
  obtain ⟨t, rfl⟩ := rx
  obtain ⟨t', rfl⟩ := ry
  refine SB.mul (mulOk_of 1000 1000 hz.2.2 (by omega) (by omega) (by decide) (by decide)) fun t' k => ?_
  have e := len_mul z n
  rw [if_neg (by simp; omega)] at e
  exact ⟨.str (Txt.mul z n), H, I.tok _, ⟨_, rfl⟩, q _ e⟩
end
theorem cutV_mem {xs : List V} {lo hi : Option Int} {v : V} (h : v ∈ cutV xs lo hi) : v ∈ xs := by
  unfold cutV at h
  exact List.mem_of_mem_drop (List.mem_of_mem_take h)
theorem cutV_len (xs : List V) (lo hi : Option Int) : (cutV xs lo hi).length ≤ xs.length := by
  unfold cutV
  rw [List.length_take, List.length_drop]
  omega
/-! ### things of the laws -/
def Flat (v : V) : Prop := v = .non ∨ (∃ x, v = .bl x) ∨ (∃ i, v = .int i) ∨ ∃ z : Str, v = .str z ∧ z.length ≤ 100000
def It (b : Addr) (H : Hp) (v : V) : Prop := Flat v ∨ (∃ a xs, v = .ref a ∧ a ≠ b ∧ H a = some (.lst xs)) ∨ ∃ a xs, v = .ref a ∧ H a = some (.tup xs)
def Tg (b : Addr) (H : Hp) (v : V) : Prop := Flat v ∨ (∃ a xs, v = .ref a ∧ a ≠ b ∧ H a = some (.lst xs)) ∨ ∃ a xs, v = .ref a ∧ H a = some (.tup xs) ∧ xs.length ≤ 1000 ∧ ∀ u ∈ xs, It b H u
theorem BagAt.tup {H : Hp} {b a : Addr} {xs : List V} (h : BagAt H b) (e : H a = some (.tup xs)) : a ≠ b := fun z => by
  obtain ⟨g, s, e2, _⟩ := h
  rw [z, e2] at e
  cases e
theorem It.bx {b : Addr} {H H' : Hp} {v : V} (h : It b H v) (hb : BagAt H b) (x : Bx b H H') : It b H' v := by
  rcases h with h | ⟨a, xs, rfl, n, e⟩ | ⟨a, xs, rfl, e⟩
  · exact .inl h
  · exact .inr (.inl ⟨a, xs, rfl, n, x.2 _ _ n e⟩)
  · exact .inr (.inr ⟨a, xs, rfl, x.2 _ _ (hb.tup e) e⟩)
theorem Tg.bx {b : Addr} {H H' : Hp} {v : V} (h : Tg b H v) (hb : BagAt H b) (x : Bx b H H') : Tg b H' v := by
  rcases h with h | ⟨a, xs, rfl, n, e⟩ | ⟨a, xs, rfl, e, l, k⟩
  · exact .inl h
  · exact .inr (.inl ⟨a, xs, rfl, n, x.2 _ _ n e⟩)
  · exact .inr (.inr ⟨a, xs, rfl, x.2 _ _ (hb.tup e) e, l, fun u hu => (k u hu).bx hb x⟩)
theorem Tg.it {b : Addr} {H : Hp} {v : V} (h : Tg b H v) : It b H v := by
  rcases h with h | h | ⟨a, xs, rfl, e, l, k⟩
  · exact .inl h
  · exact .inr (.inl h)
  · exact .inr (.inr ⟨a, xs, rfl, e⟩)
theorem Tg.str {b : Addr} {H : Hp} {z : Str} (h : z.length ≤ 100000) : Tg b H (.str z) := .inl (.inr (.inr (.inr ⟨z, rfl, h⟩)))
theorem It.str {b : Addr} {H : Hp} {z : Str} (h : z.length ≤ 100000) : It b H (.str z) := .inl (.inr (.inr (.inr ⟨z, rfl, h⟩)))
theorem str_sOf (z : Str) : z = sOf z.cps.toList := of_list rfl

/-! ### rules whose new objects stand in an opaque heap -/
section
variable {X : Cx} {es : List Expr} {t : TA} {pos : Pos}
theorem pe_weaken {e : Expr} {te tf : TE} (h : PE X e te) (k : ∀ σ H Q, tf σ H Q → te σ H Q) : PE X e tf := ⟨fun pins s σ H Q I q => h.run pins s σ H Q I (k σ H Q q)⟩
def tLstW (t : TA) : TE := fun σ H Q => t σ H fun xs H1 => xs.length ≤ 100000 ∧ ∀ p H2, H1 p = none → Same H1 H2 → H2 p = some (.lst xs) → Q (.ref p) H2
def tTupW (t : TA) : TE := fun σ H Q => t σ H fun xs H1 => xs.length ≤ 100000 ∧ ∀ p H2, H1 p = none → Same H1 H2 → H2 p = some (.tup xs) → Q (.ref p) H2
end
def rNewW (H : Hp) (o : HO) (Q : VK) : Prop := ∀ p H2, H p = none → Same H H2 → H2 p = some o → Q (.ref p) H2
theorem rNewW.go {H : Hp} {o : HO} {Q : VK} (q : rNewW H o Q) : ∀ p, H p = none → Q (.ref p) (upd H p o) := fun p hp => q p _ hp (same_new hp) upd_same
section
variable {X : Cx}
theorem op_catLW : OpR X (binaryOp .Add) (fun x y H Q => ∃ a b xs ys, x = .ref a ∧ y = .ref b ∧ H a = some (.lst xs) ∧ H b = some (.lst ys) ∧ xs.length + ys.length ≤ 100000 ∧ rNewW H (.lst (xs ++ ys)) Q) := by
  intro pins s σ H x y v u Q I rx ry h
  obtain ⟨a, b, xs, ys, rfl, rfl, ha, hb, hz, q⟩ := h
  exact op_cat pins s σ H _ _ v u Q I rx ry ⟨a, b, xs, ys, rfl, rfl, ha, hb, sz hz, q.go⟩
theorem op_repTW : OpR X (binaryOp .Mult) (fun x y H Q => ∃ l k xs, x = .ref l ∧ y = .int k ∧ H l = some (.tup xs) ∧ xs ≠ [] ∧ 2 ≤ k ∧ k ≤ 1000 ∧ xs.length ≤ 1000 ∧ rNewW H (.tup (List.replicate k.toNat xs).flatten) Q) := by
  intro pins s σ H x y v u Q I rx ry h
  obtain ⟨l, k, xs, rfl, rfl, hl, h1, h2, h3, h4, q⟩ := h
  exact op_repT pins s σ H _ _ v u Q I rx ry ⟨l, k, xs, rfl, rfl, .inl (.inl hl), h1, h2, h3, h4, q.go⟩
theorem call_list_ofW : CallR X (.type "list") (fun xs H Q => ∃ p ys, xs = [.ref p] ∧ (H p = some (.lst ys) ∨ H p = some (.tup ys)) ∧ rNewW H (.lst ys) Q) := by
  intro pins s σ H xs us Q I r h
  obtain ⟨p, ys, rfl, hp, q⟩ := h
  exact call_list_of pins s σ H _ us Q I r ⟨p, ys, rfl, hp.elim (fun h => .inl (SqL.of h)) (fun h => .inr (.inl (.inl h))), q.go⟩
theorem call_list_strW (hc : X.calm = true) : CallR X (.type "list") (fun xs H Q => ∃ z : Str, xs = [.str z] ∧ z.length ≤ 100000 ∧ rNewW H (.lst (cells z.cps.toList)) Q) := by
  intro pins s σ H xs us Q I r h
  obtain ⟨z, rfl, hz, q⟩ := h
  refine call_list_str hc pins s σ H _ us Q I r ⟨z.cps.toList, by rw [← str_sOf], ?_, q.go⟩
  rw [Array.length_toList]
  exact hz
end
section
variable {X : Cx} {es : List Expr} {t : TA} {pos : Pos}
theorem pe_tupW {x1} (h : PA X es t) : PE X (.Tuple es x1 pos) (tTupW t) := by
  refine ⟨fun pins s σ H Q I hq => ?_⟩
  refine wpAny_Tuple_spliced (thn (h.run pos pins s σ H _ I hq) fun us s1 ⟨xs, H1, I1, r, z, q⟩ => ⟨by rw [← r.length]; exact sz z, ?_⟩)
  have hf : H1 s1.heap.objs.size = none := I1.hok.fresh (Nat.le_refl _)
  refine ⟨.ref s1.heap.objs.size, upd H1 s1.heap.objs.size (.tup xs), I1.laid (t' := s1.toks) (fun b u e => Heap.get?_push_of_some _ e) (Nat.le_refl _) ?_, rfl, q _ _ hf (same_new hf) upd_same⟩
  exact ⟨sz z, us, r, ⟨_, Heap.get?_push_size _ rfl, rfl, _, rfl⟩⟩
theorem pe_lstW (h : PA X es t) : PE X (.List es pos) (tLstW t) := by
  refine ⟨fun pins s σ H Q I hq => ?_⟩
  refine wpAny_List_spliced (thn (h.run pos pins s σ H _ I hq) fun us s1 ⟨xs, H1, I1, r, z, q⟩ => ⟨by rw [← r.length]; exact sz z, ?_⟩)
  have hf : H1 s1.heap.objs.size = none := I1.hok.fresh (Nat.le_refl _)
  refine ⟨.ref s1.heap.objs.size, upd H1 s1.heap.objs.size (.lst xs), I1.laid (t' := s1.toks) (fun b u e => Heap.get?_push_of_some _ e) (Nat.le_refl _) ?_, rfl, q _ _ hf (same_new hf) upd_same⟩
  exact ⟨sz z, us, 0, r, Heap.get?_push_size _ rfl⟩
end
end Fp

set_option Elab.async false
set_option linter.all false
set_option maxRecDepth 100000
set_option maxHeartbeats 4000000
/-! sorted(range(n), key=lambda i: xs[i]) over the hand layer. -/
namespace Fp
open PySem PySem.W PySem.Spec PyProof.Rows
section
variable {prog : Program} {w : World} {A : Around} {E : Value → Shared → Prop} {s : Shared}
/-- the key's call: (lambda i: xs[i])(i) -/
theorem key_turn {f c' a cL : Addr} {qual : Str} {params : Arguments} {scope : Scope} {clos : List (Str × Addr)} {pm ctv : Value} {xL xP : Str} {p1 p2 p3 : Pos} {h : Heap} {tk : Nat} {its : Array Value} {i : Int} {t : Tok} {x : Int} {tx : Tok}
    (hroom : A.depth < recursionLimit) (hf : h.get? f = some (kla_obj "<lambda>" qual params (.Subscript (.Name xL p1) (.Name xP p2) p3) scope clos pm c' ctv))
    (hkind : scope.kind = .function) (hco : scope.isCoroutine = false) (hgen : scope.isGenerator = false) (hcell : ∀ y ∈ scope.names, y.2 ≠ .cell) (hP : scope.names.lookup xP = some .local) (hL : scope.names.lookup xL = some .free)
    (hcl : clos.lookup xL = some cL) (hic : h.IsCell cL (some (.ref a))) (hcr : ∃ (oc : Obj) (vs : Array Value) (t : Tok), h.get? c' = some oc ∧ oc.data = .fields vs ∧ vs[1]? = some (.str qual t))
    (hbind : ∀ v, bindArgs (kla_fn "<lambda>" qual params (.Subscript (.Name xL p1) (.Name xP p2) p3) scope clos pm (.ref c') ctv) ⟨[v], []⟩ = pure [(xP, v)])
    (hlim : h.NoLimit) (hl : h.IsList a its) (h0 : 0 ≤ i) (hi : i < 2 ^ 63) (hx : its[i.toNat]? = some (.int x tx))
    (hd1 : (xL == ("__debug__" : Str)) = false) (hd2 : (xP == ("__debug__" : Str)) = false) (hd3 : (xL == ("__classdict__" : Str)) = false) :
    wpAny (model prog w) A (call (.ref f) [.int i t]) (KeyPure (.int x) { s with heap := h, toks := tk }) E { s with heap := h, toks := tk } := by
  obtain ⟨oc, vs, tq, hoc, hdc, hvc⟩ := hcr
  refine wpAny_call (kla_callFunE hroom hf rfl hco hgen rfl ⟨c', oc, vs, tq, rfl, hoc, hdc, hvc⟩ ?_)
  rw [hbind]
  refine wpAny_pure (wpAny_newFunctionEnv hcell (fun y hy => ?_) (fun h₁ hns hsb => ⟨hlim.fresh _ hsb, ?_⟩) hkind)
  · rw [List.mem_singleton.mp hy]
    exact hP
  have kp : ∀ b o, h.get? b = some o → h₁.get? b = some o := fun b o e => hsb.extBut b o (Nat.ne_of_lt (Heap.lt_size e)) (Heap.get?_push_of_some _ e)
  show codeAny _ _ (.expr (.Subscript (.Name xL p1) (.Name xP p2) p3) (envX qual scope h.objs.size f (.ref c') clos)) _ _
  refine kla_codeExpr ?_
  have hic1 : h₁.IsCell cL (some (.ref a)) := by
    obtain ⟨o, ho, hd⟩ := hic
    exact ⟨o, kp _ _ ho, hd⟩
  have hl1 : h₁.IsList a its := by
    obtain ⟨o, ho, r⟩ := hl
    exact ⟨o, kp _ _ ho, r⟩
  refine Subscript_ (wpAny_Name (wpAny_loadName_free hkind hL hcl hic1 (wpAny_Name (wpAny_loadName_local hkind hP hns (show ([(xP, Value.int i t)] : List (Str × Value)).reverse.lookup xP = some (Value.int i t) by simp [List.lookup]) ?_) hd2) hd3) hd1)
  refine item_listR hl1 h0 hi hx ?_ rfl
  exact ⟨h₁, _, rfl, kp, .int _ _⟩
theorem each_range {acc : List Value} {n : Nat} (h1 : acc.length = n) (h2 : ∀ (j : Nat) v, acc[j]? = some v → ∃ t, v = .int (0 + (j : Int) * 1) t) : EachIs (fun v (i : Nat) => ∃ t, v = .int (i : Int) t) acc (List.range n) := by
  refine EachIs.of_zip (by rw [h1, List.length_range]) fun p hp => ?_
  obtain ⟨j, hj⟩ := List.mem_iff_getElem?.mp hp
  rw [List.getElem?_zip_eq_some] at hj
  obtain ⟨t, e⟩ := h2 j p.1 hj.1
  have e2 : p.2 = j := by
    have hj2 := hj.2
    have hl : j < n := by
      have := (List.getElem?_eq_some_iff.mp hj2).1
      rw [List.length_range] at this
      exact this
    rw [List.getElem?_range hl] at hj2
    exact (Option.some.inj hj2).symm
  refine ⟨t, ?_⟩
  rw [e, e2]
  congr 1
  omega
theorem sorted_range_key {r : Addr} {b : Int} {t u v : Tok} {f : Addr} {n : Nat} {Q : Value → Shared → Prop} (k : Nat → Int) (hh : A.handled = none) (hr : IsRange s.heap r 0 b 1 t u v) (hn : b = n) (hlen : n ≤ 100000) (hu : A.units + 2 < cLine)
    (turn : ∀ (i : Nat) (tt : Tok), i < n → ∀ (h : Heap) (tk : Nat), (∀ b o, s.heap.get? b = some o → h.get? b = some o) →
      wpAny (model prog w) A.in1.in1 (call (.ref f) [.int (i : Int) tt]) (KeyPure (.int (k i)) { s with heap := h, toks := tk }) (fun _ _ => False) { s with heap := h, toks := tk })
    (fin : ∀ (out : List Value) (c : Nat) (g h' : Heap) (tk : Nat) (p : Addr), (∀ b o, s.heap.get? b = some o → g.get? b = some o) → (∀ b o, g.get? b = some o → h'.get? b = some o) → g.objs.size ≤ p → h'.get? p = some (seqObj "list" out.toArray c) → out.length = n →
      EachIs (fun v (i : Nat) => ∃ t, v = .int (i : Int) t) out ((List.range n).mergeSort (dataLe false fun i => .int (k i))) → Q (.ref p) { s with heap := h', toks := tk }) :
    wpAny (model prog w) A (call (.builtin "sorted") [.ref r] [(Str.ofString "key", .ref f)]) Q E s := by
  refine call_function_entry_kw kind_sorted plain_sorted entry_sorted (ksk_s1 _ _) ?_
  unfold Builtin.«sorted»
  refine wpAny_bind (m := checkCount "sorted" 1 1 _) (wpAny_pure ?_)
  refine wpAny_bind (L2.collect_range (n := n) (A := A.in1) hh hr (small_one (by omega) (by omega) (by omega) (by omega)) (by rw [rangeSize_one]; split <;> omega) (by omega) fun h1 tk1 acc hk hacc => ?_)
  have hal : acc.toList.length = n := by rw [Array.length_toList]; exact hacc.1
  have eR := each_range hal fun j v hj => hacc.2 j v (by simpa using hj)
  have hz : acc.toList.length ≤ sizeLine := by rw [hal]; exact Nat.le_trans hlen (by decide)
  refine wpAny_bind (wpAny_newList ?_ hz)
  have hL : (h1.push (seqObj "list" acc.toList.toArray 0)).get? h1.objs.size = some (seqObj "list" acc.toList.toArray 0) := Heap.get?_push_size _ rfl
  refine wpAny_bind (wpAny_holding (wpAny_call_entry_kw slot_list_sort ⟨_, hL, rfl⟩ entry_list_sort ?body (ksk_l1 _ _)))
  rw [ksk_t1]
  have up : ∀ {g : Heap}, KeepsBut h1.objs.size (h1.push (seqObj "list" acc.toList.toArray 0)) g → ∀ b o, s.heap.get? b = some o → g.get? b = some o := fun {g} kp b o q =>
    kp b o (Nat.ne_of_lt (Heap.lt_size (hk b o q))) (Heap.get?_push_of_some _ (hk b o q))
  refine keyH_tree (kz := (List.range n).map fun i => PyData.int (k i)) (s := { s with heap := h1.push (seqObj "list" acc.toList.toArray 0), toks := tk1 }) hL (by rw [List.length_map, List.length_range]; exact hal.symm) hz ?al ?so ?un
    (keyH_turns (s := { s with heap := h1.push (seqObj "list" acc.toList.toArray 0), toks := tk1 }) eR fun v x hR hx h tk kp => ?_) fun h' tk out c kp hD ko => ⟨_, rfl, ?_⟩
  case al =>
    intro d hd d' hd'
    obtain ⟨i, _, rfl⟩ := List.mem_map.mp hd
    obtain ⟨j, _, rfl⟩ := List.mem_map.mp hd'
    rfl
  case so =>
    refine .inr fun d hd => ?_
    obtain ⟨i, _, rfl⟩ := List.mem_map.mp hd
    exact ⟨(fun e => nomatch e), (fun xs e => nomatch e)⟩
  case un =>
    intro d hd
    obtain ⟨i, _, rfl⟩ := List.mem_map.mp hd
    show A.units + 1 + 1 + 0 < cLine
    omega
  · obtain ⟨tt, rfl⟩ := hR
    exact turn x tt (List.mem_range.mp hx) h tk (up kp)
  · refine wpAny_pure ⟨_, rfl, ?_⟩
    refine fin out c h1 h' tk h1.objs.size hk (fun b o q => kp b o (Nat.ne_of_lt (Heap.lt_size q)) (Heap.get?_push_of_some _ q)) (Nat.le_refl _) hD ?_ (keyedOut_each (fun i => PyData.int (k i)) ko eR)
    · exact (ko.length (by rw [List.length_map, List.length_range]; exact hal.symm)).trans hal
end
/-! ### the order -/
def leK (k : Nat → Int) (i j : Nat) : Bool := decide (k i ≤ k j)
def orderOf (ns : List Int) : List Nat := (List.range ns.length).mergeSort (leK fun i => ns.getD i 0)
theorem dataLe_int (k : Nat → Int) (i j : Nat) : dataLe false (fun i => PyData.int (k i)) i j = leK k i j := by
  show (!(decide (k j < k i) || (!decide (k i < k j) && false))) = decide (k i ≤ k j)
  rw [Bool.and_false, Bool.or_false]
  by_cases h : k j < k i
  · rw [decide_eq_true h, decide_eq_false (by omega)]
    rfl
  · rw [decide_eq_false h, decide_eq_true (by omega)]
    rfl
theorem vals_each {out : List Value} {is : List Nat} (h : EachIs (fun v (i : Nat) => ∃ t, v = .int (i : Int) t) out is) : L2.Vals (is.map fun (i : Nat) => L2.V.int (i : Int)) out := by
  induction h with
  | nil => exact .nil
  | cons h _ ih => exact .cons h ih
end Fp
namespace Fp
open PySem PySem.Spec PyProof.Rows L2 LamX
section
variable {X : Cx}
theorem cr_range1 : CallR X (.type "range") (fun vs H Q => ∃ j, vs = [V.int j] ∧ ∀ p, H p = none → Q (.ref p) (upd H p (.rng 0 j))) := by
  intro pins s σ H vs us Q I r h
  obtain ⟨j, rfl, q⟩ := h
  obtain ⟨u, rfl, t, rfl⟩ := vals1 r
  refine call_range_1 ⟨.ref s.heap.objs.size, upd H s.heap.objs.size (.rng 0 j), I.laid (t' := s.toks + 1 + 1) (fun b o e => Heap.get?_push_of_some _ e) (Nat.le_refl _) ?_, rfl, q _ (I.hok.fresh (Nat.le_refl _))⟩
  exact ⟨_, _, _, Heap.get?_push_size _ rfl⟩
/-- sorted(range(len(xs)), key=lambda i: xs[i]): l in slot iL holds xs -/
def tSortLam (T : List (Addr × Str)) (iL : Nat) (ta : TA) : TE := fun σ H Q => ta σ H fun vs H1 => ∃ (r l : Addr) (ns : List Int), vs = [.ref r] ∧ H1 r = some (.rng 0 (ns.length : Int)) ∧ Tabs T H1 ∧ σ[iL]? = some (some (.ref l)) ∧ H1 l = some (.lst (ns.map V.int)) ∧ ns.length ≤ 1000 ∧
  ∀ p H2, ExtN H1 H2 → Tabs T H2 → H2 p = none → Q (.ref p) (upd H2 p (.lst ((orderOf ns).map fun (i : Nat) => V.int (i : Int))))
theorem pe_sortLam {T : List (Addr × Str)} {c P : Addr} {iL k : Nat} {e : Expr} {ta : TA} {params : Arguments} {scope : Scope} {xL xP : Str} {p p1 p2 p3 lpos kpos pos : Pos} (hg : Gl X "sorted") (hm : X.mg "sorted" = none) (ha : PA X [e] ta)
    (TB : TabB X.base X.mg c P) (hcode : X.env.code = .ref c) (hmT : (P, X.env.qual ++ "<lambda>") ∈ T) (hu : ∀ p ∈ T, p.1 = P → p.2 = X.env.qual ++ "<lambda>") (hr : Room k X.A) (hN : X.N[iL]? = some xL)
    (hcalm : X.calm = true)
    (hcL : X.env.scope.names.lookup xL = some .cell) (hkind : scope.kind = .function) (hco : scope.isCoroutine = false) (hgen : scope.isGenerator = false) (hnm : scope.names = [(xP, .local), (xL, .free)]) (hne : (xP == xL) = false)
    (hdef : defaultsOf params X.env = ([], []))
    (hbind : ∀ (q : Str) (cl : List (Str × Addr)) (pm cv ctv v : Value), bindArgs (PySem.W.kla_fn "<lambda>" q params (.Subscript (.Name xL p1) (.Name xP p2) p3) scope cl pm cv ctv) ⟨[v], []⟩ = pure [(xP, v)])
    (hd1 : (xL == ("__debug__" : Str)) = false := by decide) (hd2 : (xP == ("__debug__" : Str)) = false := by decide) (hd3 : (xL == ("__classdict__" : Str)) = false := by decide)
    (he : backTo pos (starEach [e] X.env) = (false, eval e X.env) :: backTo pos (starEach [] X.env) := by rfl) (hpl : (backTo pos (starEach [e] X.env)).any (·.1) = false := by rfl) :
    PE X (.Call (.Name "sorted" p) [e] [⟨some "key", .Lambda params (.Subscript (.Name xL p1) (.Name xP p2) p3) scope lpos, kpos⟩] pos) (tSortLam T iL ta) := by
  refine ⟨fun pins s σ H Q I h => ?_⟩
  refine wpAny_Call_Name_kw (ld_blt I hg hm (show bootBuiltins "sorted" = some (.builtin "sorted") by decide +kernel) ?_)
  refine PyProof.Rows.callWith_kw (thn (ha.run pos pins s σ H _ I h) fun us s1 ⟨vs, H1, I1, r1, q1⟩ => ?_) he hpl rfl rfl
  obtain ⟨r, l, ns, rfl, hrng, hT, hσ, hl, hlen, q⟩ := q1
  obtain ⟨u1, rfl, e1⟩ := vals1 r1
  obtain rfl : u1 = Value.ref r := e1
  show wpAny _ _ (evalAll ((do let v ← eval (.Lambda params (.Subscript (.Name xL p1) (.Name xP p2) p3) scope lpos) X.env; standAt pos; pure v) :: [])) _ _ s1
  refine wpAny_evalAll_cons (wpAny_bind (lam_make2 I1 TB hcode hmT hu hT hdef (fun y hy ey => ?_) fun f c' pm ctv H2 s2 I2 eN T2 hf hfn hfr hco2 => wpAny_bind (wpAny_standAt (wpAny_pure (wpAny_evalAll_nil ?_)))))
  · rw [hnm] at hy
    rcases List.mem_cons.mp hy with z | z
    · rw [z] at ey
      cases ey
    · rw [List.mem_singleton.mp z]
      exact I1.ok.has _ (.inl hcL)
  show wpAny _ _ (call (.builtin "sorted") [.ref r] [(Str.ofString "key", .ref f)]) _ _ _
  have hr2 : H2 r = some (.rng 0 (ns.length : Int)) := eN r _ hrng (fun ps z => by cases z)
  have hl2 : H2 l = some (.lst (ns.map V.int)) := eN l _ hl (fun ps z => by cases z)
  obtain ⟨t, u, v, hrr⟩ := I2.hok r _ hr2
  obtain ⟨hz, its, cn, hv, hget⟩ := I2.hok l _ hl2
  obtain ⟨m, hn, hloc⟩ := I2.loc
  obtain ⟨ul, rul, look⟩ := hloc iL xL (.ref l) hN hσ (.inr (.inl hcL))
  obtain rfl : ul = Value.ref l := rul
  obtain ⟨cL, hcl, hcell⟩ : ∃ cL, X.env.cells.lookup xL = some cL ∧ s2.heap.IsCell cL (some (.ref l)) := by
    rcases look with ⟨hk, _⟩ | ⟨_, c3, h1, h2⟩
    · have hk : X.env.scope.names.lookup xL = some .local := hk
      rw [hcL] at hk
      cases hk
    · exact ⟨c3, h1, h2⟩
  have hclo : (cloFrom X.env.cells scope.names []).lookup xL = some cL := by
    rw [hnm]
    show (cloFrom X.env.cells [(xL, .free)] []).lookup xL = some cL
    show ([(xL, (X.env.cells.lookup xL).getD 0)] : List (Str × Addr)).lookup xL = some cL
    rw [hcl]
    simp [List.lookup]
  obtain ⟨⟨oc, cvs, ct, hoc, hdc, hvc⟩, _, _⟩ := I2.hok c' _ hco2
  refine sorted_range_key (n := ns.length) (fun i => ns.getD i 0) (I2.ok.hd hcalm) hrr rfl (by omega) (by have := hr.un; omega) (fun i tt hi h tk kp => ?_) fun out c g h' tk p kg gh hgp hp lo each => ?_
  · have hx : (ns.map V.int)[i]? = some (.int (ns.getD i 0)) := by
      rw [List.getElem?_map, List.getElem?_eq_getElem hi, List.getD_eq_getElem?_getD, List.getElem?_eq_getElem hi]
      rfl
    obtain ⟨w', ew, tx, rfl⟩ := hv.get hx
    obtain ⟨oC, hoC, hdC⟩ := hcell
    refine key_turn (A := X.A.in1.in1) (cL := cL) (a := l) (its := its.toArray) (by show X.A.depth < recursionLimit; have := hr.dp; omega) (kp _ _ hf) hkind hco hgen ?_ ?_ ?_ hclo ⟨oC, kp _ _ hoC, hdC⟩ ⟨oc, cvs, ct, kp _ _ hoc, hdc, hvc⟩ (fun v => hbind _ _ _ _ _ v) (I2.nolimit.keeps kp) ⟨_, kp _ _ hget, rfl, cn, rfl⟩ (by omega) (by omega) (by simpa using ew) hd1 hd2 hd3
    · intro y hy
      rw [hnm] at hy
      rcases List.mem_cons.mp hy with z | z
      · rw [z]
        exact (fun e => nomatch e)
      · rw [List.mem_singleton.mp z]
        exact (fun e => nomatch e)
    · rw [hnm]
      simp [List.lookup]
    · rw [hnm]
      have : (xL == xP) = false := by
        rw [← Bool.not_eq_true] at hne ⊢
        intro z
        exact hne (by rw [beq_iff_eq] at z ⊢; exact z.symm)
      simp [List.lookup, this]
  · have I3 : Inv X pins σ H2 { s2 with heap := g, toks := tk } := I2.kept kg
    have fr : H2 p = none := I3.hok.fresh hgp
    have each2 : PySem.W.EachIs (fun v (i : Nat) => ∃ t, v = .int (i : Int) t) out (orderOf ns) := by
      have es : (List.range ns.length).mergeSort (PySem.W.dataLe false fun i => PyData.int (ns.getD i 0)) = orderOf ns := PySem.W.sort_congr fun a _ b _ => dataLe_int _ a b
      rw [← es]
      exact each
    have ol : (orderOf ns).length = ns.length := by
      unfold orderOf
      rw [List.length_mergeSort, List.length_range]
    have I4 : Inv X pins σ (upd H2 p (.lst ((orderOf ns).map fun (i : Nat) => V.int (i : Int)))) { s2 with heap := h', toks := tk } := I3.laid (t' := tk) gh hgp ⟨by rw [List.length_map, ol]; exact sz (by omega), out, c, vals_each each2, hp⟩
    exact ⟨.ref p, _, I4, rfl, q p H2 eN T2 fr⟩
end
end Fp

set_option Elab.async false
set_option linter.all false
set_option maxRecDepth 100000
set_option maxHeartbeats 4000000
/-! words by lengths: the mathematics. -/
namespace Fp
open PySem PyProof.Rows
/-! ### the order by buckets -/
theorem leK_total (k : Nat → Int) : PySem.W.TotalLe (leK k) where
  trans := fun a b c h1 h2 => by
    unfold leK at *
    have := of_decide_eq_true h1
    have := of_decide_eq_true h2
    exact decide_eq_true (by omega)
  total := fun a b => by
    unfold leK
    by_cases h : k a ≤ k b
    · exact .inl (decide_eq_true h)
    · exact .inr (decide_eq_true (by omega))
def buckets (k : Nat → Int) (n : Nat) : List Nat := (List.range 13).flatMap fun (v : Nat) => (List.range n).filter fun (i : Nat) => decide (k i = (v : Int))
theorem flat_one {α : Type} (X : List α) (c : Nat) : ∀ l : List Nat, l.Nodup → (l.flatMap fun v => if v = c then X else []) = if c ∈ l then X else []
  | [], _ => rfl
  | v :: r, h => by
    have h1 := List.nodup_cons.mp h
    have ih := flat_one X c r h1.2
    rw [List.flatMap_cons, ih]
    by_cases e : v = c
    · subst e
      rw [if_pos rfl, if_neg h1.1, if_pos (List.mem_cons_self ..), List.append_nil]
    · rw [if_neg e, List.nil_append]
      by_cases m : c ∈ r
      · rw [if_pos m, if_pos (List.mem_cons_of_mem _ m)]
      · rw [if_neg m, if_neg (fun z => by
          rcases List.mem_cons.mp z with z | z
          · exact e z.symm
          · exact m z)]
theorem rank_eq (k : Nat → Int) (c a : Nat) : PySem.W.sameRank (leK k) c a = decide (k a = k c) := by
  unfold PySem.W.sameRank leK
  by_cases h : k a = k c
  · rw [decide_eq_true h, decide_eq_true (by omega), decide_eq_true (by omega)]
    rfl
  · rw [decide_eq_false h]
    by_cases h2 : k c ≤ k a
    · rw [decide_eq_true h2, decide_eq_false (by omega)]
      rfl
    · rw [decide_eq_false h2]
      rfl
theorem order_buckets (k : Nat → Int) (n : Nat) (h : ∀ i, i < n → 0 ≤ k i ∧ k i ≤ 12) : (List.range n).mergeSort (leK k) = buckets k n := by
  symm
  refine PySem.W.sort_unique (leK_total k) ?_ fun c => ?_
  · unfold buckets
    rw [List.pairwise_flatMap]
    refine ⟨fun v _ => ?_, ?_⟩
    · refine List.Pairwise.imp_of_mem (fun {a b} ha hb _ => ?_) (List.Pairwise.filter _ List.pairwise_lt_range)
      have e1 := of_decide_eq_true (List.mem_filter.mp ha).2
      have e2 := of_decide_eq_true (List.mem_filter.mp hb).2
      exact decide_eq_true (by omega)
    · refine List.Pairwise.imp (fun {v v'} hv x hx y hy => ?_) List.pairwise_lt_range
      have e1 := of_decide_eq_true (List.mem_filter.mp hx).2
      have e2 := of_decide_eq_true (List.mem_filter.mp hy).2
      exact decide_eq_true (by omega)
  · have eq : PySem.W.sameRank (leK k) c = fun a => decide (k a = k c) := funext fun a => rank_eq k c a
    rw [eq]
    unfold buckets
    rw [List.filter_flatMap]
    by_cases hc : 0 ≤ k c ∧ k c ≤ 12
    · obtain ⟨vc, hvc⟩ := Int.eq_ofNat_of_zero_le hc.1
      have e : (fun v : Nat => ((List.range n).filter fun i => decide (k i = (v : Int))).filter fun a => decide (k a = k c)) = fun v => if v = vc then (List.range n).filter fun a => decide (k a = k c) else [] := by
        funext v
        by_cases ev : v = vc
        · subst ev
          rw [if_pos rfl, hvc, List.filter_filter]
          simp
        · rw [if_neg ev, List.filter_filter]
          apply List.filter_eq_nil_iff.mpr
          intro a _ z
          rw [Bool.and_eq_true, decide_eq_true_eq, decide_eq_true_eq] at z
          omega
      rw [e, flat_one _ _ _ List.nodup_range, if_pos (List.mem_range.mpr (by omega))]
    · have e1 : (List.range n).filter (fun a => decide (k a = k c)) = [] := by
        apply List.filter_eq_nil_iff.mpr
        intro a ha z
        have := h a (List.mem_range.mp ha)
        have := of_decide_eq_true z
        exact hc (by omega)
      rw [e1]
      apply List.flatMap_eq_nil_iff.mpr
      intro v _
      rw [List.filter_filter]
      apply List.filter_eq_nil_iff.mpr
      intro a ha z
      rw [Bool.and_eq_true, decide_eq_true_eq, decide_eq_true_eq] at z
      have := h a (List.mem_range.mp ha)
      exact hc (by omega)
/-! ### words -/
def lastOne : List Nat → Option Nat
  | [] => none
  | c :: r => match lastOne r with
    | some i => some (i + 1)
    | none => if c = 49 then some 0 else none
theorem lastOne_spec : ∀ w : List Nat, (lastOne w = none ∧ ∀ i : Nat, w[i]? ≠ some 49) ∨ ∃ i : Nat, lastOne w = some i ∧ w[i]? = some 49 ∧ ∀ k : Nat, i < k → w[k]? ≠ some 49
  | [] => .inl ⟨rfl, fun i h => by simp at h⟩
  | c :: r => by
    rcases lastOne_spec r with ⟨e, h⟩ | ⟨i, e, h1, h2⟩
    · by_cases hc : c = 49
      · refine .inr ⟨0, ?_, ?_, fun k hk => ?_⟩
        · show (match lastOne r with | some i => some (i + 1) | none => if c = 49 then some 0 else none) = some 0
          rw [e]
          exact if_pos hc
        · rw [hc]
          rfl
        · obtain ⟨j, rfl⟩ : ∃ j, k = j + 1 := ⟨k - 1, by omega⟩
          exact h j
      · refine .inl ⟨?_, fun i => ?_⟩
        · show (match lastOne r with | some i => some (i + 1) | none => if c = 49 then some 0 else none) = none
          rw [e]
          exact if_neg hc
        · cases i with
          | zero => exact fun z => hc (Option.some.inj z)
          | succ j => exact h j
    · refine .inr ⟨i + 1, ?_, h1, fun k hk => ?_⟩
      · show (match lastOne r with | some i => some (i + 1) | none => if c = 49 then some 0 else none) = some (i + 1)
        rw [e]
      · obtain ⟨j, rfl⟩ : ∃ j, k = j + 1 := ⟨k - 1, by omega⟩
        exact h2 j (by omega)
def lessW (w : List Nat) : List Nat := match lastOne w with
  | none => []
  | some i => w.take i ++ 48 :: List.replicate (w.length - i - 1) 49
def stepW (ns : List Nat) (st : List (List Nat) × Option (List Nat)) (p : Nat) : List (List Nat) × Option (List Nat) :=
  let b := match st.2 with
    | none => []
    | some w => lessW w
  let a := b ++ List.replicate (ns.getD p 0 - b.length) 49
  (st.1.set p a, some a)
def okW (ns : List Nat) : List Nat → List (List Nat) × Option (List Nat) → Bool
  | [], _ => true
  | p :: r, st => (match st.2 with
    | none => true
    | some w => (lastOne w).isSome) && okW ns r (stepW ns st p)
def iv (ns : List Nat) : List Int := ns.map fun (n : Nat) => (n : Int)
def startW (ns : List Nat) : List (List Nat) × Option (List Nat) := (List.replicate ns.length [], none)
def wordsOf (ns : List Nat) : List (List Nat) := ((buckets (fun i => (iv ns).getD i 0) ns.length).foldl (stepW ns) (startW ns)).1
def lightL : List Nat := [6, 4, 4, 4, 4, 4, 5, 5, 5, 5, 6, 6, 6, 6, 6, 6, 4, 5, 6, 4]
def darkL : List Nat := [7, 2, 3, 3, 4, 4, 5, 5, 5, 6, 6, 6, 7, 7, 7, 7, 6, 7, 7, 7]
def bitsVal (w : List Nat) : Nat := w.foldl (fun n c => 2 * n + if c = 49 then 1 else 0) 0
def bitsOf : Nat → Nat → List Nat → List Nat
  | 0, _, acc => acc
  | k + 1, n, acc => bitsOf k (n / 2) ((48 + n % 2) :: acc)
def lawLess (w : List Nat) : Option (List Nat) := if bitsVal w = 0 then none else some (bitsOf w.length (bitsVal w - 1) [])
def stepL (ns : List Nat) (len : Nat) (st : Option (List (List Nat) × List Nat)) (p : Nat) : Option (List (List Nat) × List Nat) := match st with
  | none => none
  | some (f, l) => if ns.getD p 0 = len then (match (if l = [] then some [] else lawLess l) with
      | none => none
      | some b => some (f.set p (b ++ List.replicate (len - b.length) 49), b ++ List.replicate (len - b.length) 49)) else some (f, l)
def rowL (ns : List Nat) (st : Option (List (List Nat) × List Nat)) (len : Nat) : Option (List (List Nat) × List Nat) := (List.range ns.length).foldl (stepL ns len) st
def lawW (ns : List Nat) : Option (List (List Nat) × List Nat) := ((List.range 12).map (· + 1)).foldl (rowL ns) (some (List.replicate ns.length [], []))
theorem light_ok : okW lightL (buckets (fun i => (iv lightL).getD i 0) lightL.length) (startW lightL) = true := by decide +kernel
theorem dark_ok : okW darkL (buckets (fun i => (iv darkL).getD i 0) darkL.length) (startW darkL) = true := by decide +kernel
theorem light_same : (lawW lightL).map (·.1) = some (wordsOf lightL) := by decide +kernel
theorem dark_same : (lawW darkL).map (·.1) = some (wordsOf darkL) := by decide +kernel
theorem third_some : (lawW [1, 3, 3, 3, 5, 5, 6, 6, 6]).isSome = true := by decide +kernel

theorem okW_at {ns : List Nat} : ∀ (ord : List Nat) (st0 : List (List Nat) × Option (List Nat)) (i p : Nat), ord[i]? = some p → okW ns ord st0 = true → ∀ w, ((ord.take i).foldl (stepW ns) st0).2 = some w → ∃ j, lastOne w = some j
  | [], _, i, p, h, _ => by simp at h
  | q :: r, st0, 0, p, h, ok => fun w hw => by
    unfold okW at ok
    rw [Bool.and_eq_true] at ok
    have h1 := ok.1
    have hw : st0.2 = some w := hw
    rw [hw] at h1
    exact Option.isSome_iff_exists.mp h1
  | q :: r, st0, i + 1, p, h, ok => by
    unfold okW at ok
    rw [Bool.and_eq_true] at ok
    exact okW_at r (stepW ns st0 q) i p h ok.2
def LenW (st : List (List Nat) × Option (List Nat)) : Prop := ∀ w, st.2 = some w → w.length ≤ 12
theorem lessW_le (w : List Nat) : (lessW w).length ≤ w.length := by
  unfold lessW
  rcases lastOne_spec w with ⟨e, _⟩ | ⟨i, e, h1, _⟩
  · rw [e]
    exact Nat.zero_le _
  · rw [e]
    have := (List.getElem?_eq_some_iff.mp h1).1
    show (w.take i ++ 48 :: List.replicate (w.length - i - 1) 49).length ≤ w.length
    rw [List.length_append, List.length_cons, List.length_replicate, List.length_take]
    omega
theorem lenW_step {ns : List Nat} (hn : ∀ n ∈ ns, n ≤ 12) {st : List (List Nat) × Option (List Nat)} (h : LenW st) (p : Nat) : LenW (stepW ns st p) := by
  intro w hw
  have hg : ns.getD p 0 ≤ 12 := by
    rw [List.getD_eq_getElem?_getD]
    cases e : ns[p]? with
    | none => exact Nat.zero_le _
    | some n => exact hn n (List.mem_of_getElem? e)
  have e : (match st.2 with | none => [] | some w => lessW w) ++ List.replicate (ns.getD p 0 - (match st.2 with | none => [] | some w => lessW w).length) 49 = w := Option.some.inj hw
  rw [← e, List.length_append, List.length_replicate]
  cases h2 : st.2 with
  | none => show 0 + (ns.getD p 0 - 0) ≤ 12; omega
  | some u =>
    have := h u h2
    have := lessW_le u
    show (lessW u).length + (ns.getD p 0 - (lessW u).length) ≤ 12
    omega
theorem lenW_fold {ns : List Nat} (hn : ∀ n ∈ ns, n ≤ 12) : ∀ (ord : List Nat) (st : List (List Nat) × Option (List Nat)), LenW st → LenW (ord.foldl (stepW ns) st)
  | [], _, h => h
  | p :: r, st, h => lenW_fold hn r _ (lenW_step hn h p)
theorem lenW_start (ns : List Nat) : LenW (startW ns) := fun w h => nomatch h
theorem words_len (ns : List Nat) : ∀ (ord : List Nat) (st : List (List Nat) × Option (List Nat)), (ord.foldl (stepW ns) st).1.length = st.1.length
  | [], _ => rfl
  | p :: r, st => by
    rw [List.foldl_cons, words_len ns r]
    exact List.length_set
theorem mem_buckets {k : Nat → Int} {n p : Nat} (h : p ∈ buckets k n) : p < n := by
  unfold buckets at h
  obtain ⟨v, _, hv⟩ := List.mem_flatMap.mp h
  exact List.mem_range.mp (List.mem_filter.mp hv).1
theorem iv_len (ns : List Nat) : (iv ns).length = ns.length := List.length_map ..
theorem order_iv {ns : List Nat} (hn : ∀ n ∈ ns, n ≤ 12) : orderOf (iv ns) = buckets (fun i => (iv ns).getD i 0) ns.length := by
  unfold orderOf
  rw [iv_len]
  refine order_buckets _ _ fun i hi => ?_
  have e : (iv ns).getD i 0 = (ns[i] : Int) := by
    unfold iv
    rw [List.getD_eq_getElem?_getD, List.getElem?_map, List.getElem?_eq_getElem hi]
    rfl
  have := hn ns[i] (List.getElem_mem hi)
  show 0 ≤ (iv ns).getD i 0 ∧ (iv ns).getD i 0 ≤ 12
  rw [e]
  omega
theorem lens_light : ∀ w ∈ Fp.wordsOf lightL, w.length ≤ 12 := by decide +kernel
theorem lens_dark : ∀ w ∈ Fp.wordsOf darkL, w.length ≤ 12 := by decide +kernel
theorem len_light : (Fp.wordsOf lightL).length = 20 := by decide +kernel
theorem len_dark : (Fp.wordsOf darkL).length = 20 := by decide +kernel
def runT (W : List (List Nat)) (r : Nat) : List Nat := if r < 16 then W.getD r [] else W.getD (15 + r / 16) [] ++ W.getD (r - r / 16 * 16) []
theorem foldl_keep {α β : Type} (f : Option α → β → Option α) (h : ∀ b, f none b = none) : ∀ l : List β, l.foldl f none = none
  | [] => rfl
  | b :: r => by
    rw [List.foldl_cons, h]
    exact foldl_keep f h r
theorem fold_take {α β : Type} (f : Option α → β → Option α) (h : ∀ b, f none b = none) (l : List β) (s : Option α) (i : Nat) (e : (l.take i).foldl f s = none) : l.foldl f s = none := by
  rw [← List.take_append_drop i l, List.foldl_append, e]
  exact foldl_keep f h _
theorem stepL_none (ns : List Nat) (len p : Nat) : stepL ns len none p = none := rfl
theorem rowL_none (ns : List Nat) (len : Nat) : rowL ns none len = none := foldl_keep _ (stepL_none ns len) _
def ls12 : List Nat := (List.range 12).map (· + 1)
theorem ls12_at {i : Nat} (h : i < 12) : ls12[i]? = some (i + 1) := by
  unfold ls12
  rw [List.getElem?_map, List.getElem?_range h]
  rfl
theorem lawW_eq (ns : List Nat) : lawW ns = ls12.foldl (rowL ns) (some (List.replicate ns.length [], [])) := rfl
theorem lawLess_len {l b : List Nat} (h : lawLess l = some b) : b.length = l.length := by
  have key : ∀ (k n : Nat) (acc : List Nat), (bitsOf k n acc).length = k + acc.length := by
    intro k
    induction k with
    | zero => intro n acc; show acc.length = 0 + acc.length; omega
    | succ k ih =>
      intro n acc
      show (bitsOf k (n / 2) ((48 + n % 2) :: acc)).length = _
      rw [ih, List.length_cons]
      omega
  unfold lawLess at h
  split at h
  · cases h
  · have := Option.some.inj h
    rw [← this, key]
    rfl
theorem stepL_no {ns : List Nat} {len p : Nat} {f : List (List Nat)} {l : List Nat} (h : ¬ ns.getD p 0 = len) : stepL ns len (some (f, l)) p = some (f, l) := if_neg h
theorem stepL_yes {ns : List Nat} {len p : Nat} {f : List (List Nat)} {l b : List Nat} (h : ns.getD p 0 = len) (hb : (if l = [] then some [] else lawLess l) = some b) :
    stepL ns len (some (f, l)) p = some (f.set p (b ++ List.replicate (len - b.length) 49), b ++ List.replicate (len - b.length) 49) := by
  refine (if_pos h).trans ?_
  rw [hb]
theorem stepL_bad {ns : List Nat} {len p : Nat} {f : List (List Nat)} {l : List Nat} (h : ns.getD p 0 = len) (hb : (if l = [] then some [] else lawLess l) = none) : stepL ns len (some (f, l)) p = none := by
  refine (if_pos h).trans ?_
  rw [hb]
end Fp

set_option Elab.async false
set_option linter.all false
set_option maxRecDepth 100000
set_option maxHeartbeats 4000000
/-! words by lengths: which lengths have words, and that no word begins another. -/
namespace Fp
open PySem PyProof.Rows
abbrev veB : List Value := [.type "ValueError", .type "Exception", .type "BaseException", .type "object"]
theorem exm_own {K : PySem.W.Frag} {S : Addr} (h1 : PySem.W.subIn K (.ref S) (.type "BaseException") = some true) (h2 : PySem.W.isClsIn K S = true) (h3 : PySem.W.typeIn K (.ref S) = some (.type "type")) (h4 : PySem.W.subIn K (.ref S) (.ref S) = some true) : PySem.W.exmOne K (.ref S) (.ref S) = some true := by
  unfold PySem.W.isClsIn at h2
  simp [PySem.W.exmOne, PySem.W.kitCls, h1, h2, h3, h4]
def wt (n : Nat) : Nat := 2 ^ (12 - n)
def sumW (ns ps : List Nat) : Nat := (ps.map fun p => wt (ns.getD p 0)).sum
def Bits (w : List Nat) : Prop := ∀ c ∈ w, c = 48 ∨ c = 49
def lo (w : List Nat) : Nat := bitsVal w * wt w.length
theorem val_from (w : List Nat) : ∀ a : Nat, w.foldl (fun n c => 2 * n + if c = 49 then 1 else 0) a = a * 2 ^ w.length + bitsVal w := by
  induction w with
  | nil => intro a; show a = a * 1 + 0; omega
  | cons c r ih =>
    intro a
    have e1 := ih (2 * a + if c = 49 then 1 else 0)
    have e2 := ih (2 * 0 + if c = 49 then 1 else 0)
    show r.foldl _ (2 * a + if c = 49 then 1 else 0) = a * 2 ^ (r.length + 1) + r.foldl _ (2 * 0 + if c = 49 then 1 else 0)
    rw [e1, e2, Nat.pow_succ, Nat.add_mul, Nat.mul_zero, Nat.zero_add, ← Nat.add_assoc]
    congr 2
    rw [Nat.mul_comm (2 ^ r.length) 2, ← Nat.mul_assoc, Nat.mul_comm a 2]
theorem val_app (u v : List Nat) : bitsVal (u ++ v) = bitsVal u * 2 ^ v.length + bitsVal v := by
  show (u ++ v).foldl _ 0 = _
  rw [List.foldl_append]
  exact val_from v _
theorem val_cons (c : Nat) (r : List Nat) : bitsVal (c :: r) = (if c = 49 then 1 else 0) * 2 ^ r.length + bitsVal r := by
  show r.foldl _ (2 * 0 + if c = 49 then 1 else 0) = _
  rw [val_from, Nat.mul_zero, Nat.zero_add]
theorem val_ones (n : Nat) : bitsVal (List.replicate n 49) + 1 = 2 ^ n := by
  induction n with
  | zero => rfl
  | succ k ih =>
    rw [List.replicate_succ, val_cons, if_pos rfl, List.length_replicate, Nat.one_mul, Nat.pow_succ, Nat.add_assoc, ih]
    omega
theorem val_lt (w : List Nat) : bitsVal w < 2 ^ w.length := by
  induction w with
  | nil => exact Nat.one_pos
  | cons c r ih =>
    rw [val_cons, List.length_cons, Nat.pow_succ]
    split <;> omega
theorem val_none {w : List Nat} (h : ∀ i : Nat, w[i]? ≠ some 49) : bitsVal w = 0 := by
  induction w with
  | nil => rfl
  | cons c r ih =>
    rw [val_cons, if_neg (fun e => h 0 (by rw [e]; rfl)), Nat.zero_mul, Nat.zero_add]
    exact ih fun i => h (i + 1)
theorem less_val {w : List Nat} {i : Nat} (hb : Bits w) (h : lastOne w = some i) : Bits (lessW w) ∧ (lessW w).length = w.length ∧ bitsVal (lessW w) + 1 = bitsVal w := by
  rcases lastOne_spec w with ⟨e, _⟩ | ⟨i2, e, h1, h2⟩
  · rw [e] at h
    cases h
  · rw [e] at h
    cases h
    obtain ⟨hi, h1'⟩ := List.getElem?_eq_some_iff.mp h1
    have ew : w = w.take i ++ 49 :: w.drop (i + 1) := by
      conv => lhs; rw [← List.take_append_drop i w]
      rw [List.drop_eq_getElem_cons hi, h1']
    have hz : bitsVal (w.drop (i + 1)) = 0 := val_none fun k => by
      rw [List.getElem?_drop]
      exact h2 _ (by omega)
    have dl : (w.drop (i + 1)).length = w.length - i - 1 := by rw [List.length_drop]; omega
    have el : lessW w = w.take i ++ 48 :: List.replicate (w.length - i - 1) 49 := by
      unfold lessW
      rw [e]
    refine ⟨fun c hc => ?_, ?_, ?_⟩
    · rw [el] at hc
      rcases List.mem_append.mp hc with z | z
      · exact hb c (List.mem_of_mem_take z)
      · rcases List.mem_cons.mp z with z | z
        · exact .inl z
        · exact .inr (List.mem_replicate.mp z).2
    · rw [el, List.length_append, List.length_cons, List.length_replicate, List.length_take]
      omega
    · have v1 : bitsVal w = bitsVal (w.take i) * 2 ^ (w.length - i - 1 + 1) + 2 ^ (w.length - i - 1) := by
        conv => lhs; rw [ew]
        rw [val_app, val_cons, if_pos rfl, hz, List.length_cons, dl, Nat.one_mul]
        rfl
      have v2 : bitsVal (lessW w) = bitsVal (w.take i) * 2 ^ (w.length - i - 1 + 1) + bitsVal (List.replicate (w.length - i - 1) 49) := by
        rw [el, val_app, val_cons, if_neg (by decide), List.length_cons, List.length_replicate, Nat.zero_mul, Nat.zero_add]
      rw [v1, v2, Nat.add_assoc, val_ones]
theorem new_word {u : List Nat} {v n : Nat} (hb : Bits u) (hl : u.length ≤ n) (hn : n ≤ 12) (hv : bitsVal u + 1 = v) : Bits (u ++ List.replicate (n - u.length) 49) ∧ (u ++ List.replicate (n - u.length) 49).length = n ∧ lo (u ++ List.replicate (n - u.length) 49) + wt n = v * wt u.length := by
  have l : (u ++ List.replicate (n - u.length) 49).length = n := by
    rw [List.length_append, List.length_replicate]
    omega
  refine ⟨fun c hc => ?_, l, ?_⟩
  · rcases List.mem_append.mp hc with z | z
    · exact hb c z
    · exact .inr (List.mem_replicate.mp z).2
  · unfold lo
    rw [l]
    have e : bitsVal (u ++ List.replicate (n - u.length) 49) + 1 = v * 2 ^ (n - u.length) := by
      rw [val_app, List.length_replicate, Nat.add_assoc, val_ones, ← hv, Nat.add_mul, Nat.one_mul]
    have e2 : bitsVal (u ++ List.replicate (n - u.length) 49) * wt n + wt n = (bitsVal (u ++ List.replicate (n - u.length) 49) + 1) * wt n := by
      rw [Nat.add_mul, Nat.one_mul]
    rw [e2, e, Nat.mul_assoc]
    congr 1
    unfold wt
    rw [← Nat.pow_add]
    congr 1
    omega
def Ap (u v : List Nat) : Prop := lo u + wt u.length ≤ lo v ∨ lo v + wt v.length ≤ lo u
structure Iv (ns done : List Nat) (st : List (List Nat) × Option (List Nat)) : Prop where
  len : st.1.length = ns.length
  no : st.2 = none → done = []
  last : ∀ w, st.2 = some w → Bits w ∧ w.length ≤ 12 ∧ lo w + sumW ns done = 4096
  each : ∀ p ∈ done, Bits (st.1.getD p []) ∧ (st.1.getD p []).length = ns.getD p 0 ∧ 4096 ≤ lo (st.1.getD p []) + sumW ns done
  apart : ∀ p ∈ done, ∀ q ∈ done, p ≠ q → Ap (st.1.getD p []) (st.1.getD q [])
theorem iv_start (ns : List Nat) : Iv ns [] (startW ns) where
  len := List.length_replicate
  no := fun _ => rfl
  last := fun w h => nomatch h
  each := fun p h => nomatch h
  apart := fun p h => nomatch h
theorem getD_set {l : List (List Nat)} {p q : Nat} {a : List Nat} (h : p < l.length) : (l.set p a).getD q [] = if p = q then a else l.getD q [] := by
  rw [List.getD_eq_getElem?_getD, List.getElem?_set]
  by_cases e : p = q
  · rw [if_pos e, if_pos e, if_pos h]
    rfl
  · rw [if_neg e, if_neg e, List.getD_eq_getElem?_getD]
theorem iv_step {ns done : List Nat} {st : List (List Nat) × Option (List Nat)} {p : Nat} (h : Iv ns done st) (hp : p < ns.length) (nd : p ∉ done) (h12 : ns.getD p 0 ≤ 12) (hs : ∀ w, st.2 = some w → w.length ≤ ns.getD p 0 ∧ ∃ i, lastOne w = some i) : Iv ns (p :: done) (stepW ns st p) ∧ ∀ w, (stepW ns st p).2 = some w → w.length = ns.getD p 0 := by
  obtain ⟨a, ea, ba, la, sa⟩ : ∃ a, stepW ns st p = (st.1.set p a, some a) ∧ Bits a ∧ a.length = ns.getD p 0 ∧ lo a + wt (ns.getD p 0) + sumW ns done = 4096 := by
    cases e : st.2 with
    | none =>
      have n := new_word (u := []) (v := 1) (n := ns.getD p 0) (fun c hc => nomatch hc) (Nat.zero_le _) h12 rfl
      refine ⟨_, by unfold stepW; rw [e], n.1, n.2.1, ?_⟩
      rw [h.no e, n.2.2]
      rfl
    | some w =>
      obtain ⟨hl, i, hi⟩ := hs w e
      obtain ⟨b1, b2, b3⟩ := h.last w e
      obtain ⟨c1, c2, c3⟩ := less_val b1 hi
      have n := new_word (u := lessW w) (v := bitsVal w) (n := ns.getD p 0) c1 (by omega) h12 c3
      refine ⟨_, by unfold stepW; rw [e], n.1, n.2.1, ?_⟩
      rw [n.2.2, c2]
      exact b3
  have sc : sumW ns (p :: done) = wt (ns.getD p 0) + sumW ns done := by
    unfold sumW
    rw [List.map_cons, List.sum_cons]
  have g : ∀ q, (st.1.set p a).getD q [] = if p = q then a else st.1.getD q [] := fun q => getD_set (by rw [h.len]; exact hp)
  rw [ea]
  refine ⟨⟨by rw [List.length_set]; exact h.len, (fun z => nomatch z), fun w hw => ?_, fun q hq => ?_, fun q hq r hr ne => ?_⟩, fun w hw => ?_⟩
  · cases hw
    exact ⟨ba, by omega, by rw [sc]; omega⟩
  · rw [g, sc]
    by_cases e : p = q
    · rw [if_pos e, ← e]
      exact ⟨ba, la, by omega⟩
    · rw [if_neg e]
      rcases List.mem_cons.mp hq with z | z
      · exact absurd z.symm e
      · have := h.each q z
        exact ⟨this.1, this.2.1, by omega⟩
  · show Ap ((st.1.set p a).getD q []) ((st.1.set p a).getD r [])
    rw [g, g]
    by_cases e : p = q
    · rw [if_pos e, if_neg (by omega)]
      rcases List.mem_cons.mp hr with z | z
      · omega
      · have := (h.each r z).2.2
        exact .inl (by rw [la]; omega)
    · rw [if_neg e]
      by_cases e2 : p = r
      · rw [if_pos e2]
        rcases List.mem_cons.mp hq with z | z
        · omega
        · have := (h.each q z).2.2
          exact .inr (by rw [la]; omega)
      · rw [if_neg e2]
        rcases List.mem_cons.mp hq with z | z
        · omega
        · rcases List.mem_cons.mp hr with y | y
          · omega
          · exact h.apart q z r y ne
  · cases hw
    exact la
theorem wt_pos (n : Nat) : 0 < wt n := Nat.pow_pos (by decide)
theorem iv_run {ns : List Nat} : ∀ (rest done : List Nat) (st : List (List Nat) × Option (List Nat)), Iv ns done st → rest.Nodup → (∀ p ∈ rest, p < ns.length ∧ p ∉ done ∧ ns.getD p 0 ≤ 12) → rest.Pairwise (fun p q => ns.getD p 0 ≤ ns.getD q 0) → (∀ w, st.2 = some w → ∀ p ∈ rest, w.length ≤ ns.getD p 0) →
    (okW ns rest st = true → Iv ns (rest.reverse ++ done) (rest.foldl (stepW ns) st)) ∧ (okW ns rest st = false → 4096 < sumW ns done + sumW ns rest)
  | [], done, st, h, _, _, _, _ => ⟨fun _ => h, fun z => nomatch z⟩
  | p :: r, done, st, h, nd, hp, so, hl => by
    have n1 := List.nodup_cons.mp nd
    have s1 := List.pairwise_cons.mp so
    have p1 := hp p (List.mem_cons_self ..)
    have sr : sumW ns (p :: r) = wt (ns.getD p 0) + sumW ns r := by
      unfold sumW
      rw [List.map_cons, List.sum_cons]
    by_cases ok : ∀ w, st.2 = some w → ∃ i, lastOne w = some i
    · have okr : okW ns (p :: r) st = okW ns r (stepW ns st p) := by
        show ((match st.2 with | none => true | some w => (lastOne w).isSome) && okW ns r (stepW ns st p)) = _
        cases e : st.2 with
        | none => rfl
        | some w =>
          obtain ⟨i, hi⟩ := ok w e
          show ((lastOne w).isSome && _) = _
          rw [hi]
          rfl
      obtain ⟨st1, st2⟩ := iv_step h p1.1 p1.2.1 p1.2.2 fun w hw => ⟨hl w hw p (List.mem_cons_self ..), ok w hw⟩
      have ih := iv_run r (p :: done) (stepW ns st p) st1 n1.2 (fun q hq => ?_) s1.2 (fun w hw q hq => ?_)
      · rw [okr]
        refine ⟨fun z => ?_, fun z => ?_⟩
        · have := ih.1 z
          rw [List.reverse_cons, List.append_assoc]
          exact this
        · have := ih.2 z
          have sc : sumW ns (p :: done) = wt (ns.getD p 0) + sumW ns done := by
            unfold sumW
            rw [List.map_cons, List.sum_cons]
          omega
      · have := hp q (List.mem_cons_of_mem _ hq)
        refine ⟨this.1, fun z => ?_, this.2.2⟩
        rcases List.mem_cons.mp z with y | y
        · exact n1.1 (y ▸ hq)
        · exact this.2.1 y
      · rw [st2 w hw]
        exact s1.1 q hq
    · obtain ⟨w, hw, no⟩ : ∃ w, st.2 = some w ∧ ¬ ∃ i, lastOne w = some i := by
        cases e : st.2 with
        | none => exact absurd (fun w hw => nomatch e.symm.trans hw) ok
        | some w => exact ⟨w, rfl, fun z => ok fun u hu => by rw [e] at hu; cases hu; exact z⟩
      have hz : lastOne w = none := by
        cases e : lastOne w with
        | none => rfl
        | some i => exact absurd ⟨i, e⟩ no
      have okf : okW ns (p :: r) st = false := by
        show ((match st.2 with | none => true | some w => (lastOne w).isSome) && okW ns r (stepW ns st p)) = false
        rw [hw]
        show ((lastOne w).isSome && _) = false
        rw [hz]
        rfl
      rw [okf]
      refine ⟨(fun z => nomatch z), fun _ => ?_⟩
      have l0 : lo w = 0 := by
        rcases lastOne_spec w with ⟨_, h2⟩ | ⟨i, e, _⟩
        · unfold lo
          rw [val_none h2, Nat.zero_mul]
        · exact absurd ⟨i, e⟩ no
      have := (h.last w hw).2.2
      have := wt_pos (ns.getD p 0)
      omega
theorem prefix_lo {u v : List Nat} (hv : v.length ≤ 12) (h : v.take u.length = u) : lo u ≤ lo v ∧ lo v < lo u + wt u.length := by
  have ll : u.length ≤ v.length := by
    have := congrArg List.length h
    rw [List.length_take] at this
    omega
  have ev : v = u ++ v.drop u.length := by
    conv => lhs; rw [← List.take_append_drop u.length v]
    rw [h]
  have e1 : bitsVal v = bitsVal u * 2 ^ (v.length - u.length) + bitsVal (v.drop u.length) := by
    conv => lhs; rw [ev]
    rw [val_app, List.length_drop]
  have e2 := val_lt (v.drop u.length)
  rw [List.length_drop] at e2
  have e3 : wt u.length = 2 ^ (v.length - u.length) * wt v.length := by
    unfold wt
    rw [← Nat.pow_add]
    congr 1
    omega
  unfold lo
  rw [e1, e3, Nat.add_mul, Nat.mul_assoc]
  have := wt_pos v.length
  refine ⟨Nat.le_add_right _ _, Nat.add_lt_add_left ?_ _⟩
  exact Nat.mul_lt_mul_of_pos_right e2 this
theorem ap_no {u v : List Nat} (hv : v.length ≤ 12) (h : Ap u v) : v.take u.length ≠ u := fun e => by
  have := prefix_lo hv e
  have := wt_pos v.length
  rcases h with z | z <;> omega
theorem sum_range (ns : List Nat) : sumW ns (List.range ns.length) = (ns.map wt).sum := by
  unfold sumW
  congr 1
  apply List.ext_getElem?
  intro i
  rw [List.getElem?_map, List.getElem?_map]
  by_cases h : i < ns.length
  · rw [List.getElem?_range h, List.getElem?_eq_getElem h, Option.map_some, Option.map_some, List.getD_eq_getElem?_getD, List.getElem?_eq_getElem h]
    rfl
  · rw [List.getElem?_eq_none (by rw [List.length_range]; omega), List.getElem?_eq_none (by omega)]
    rfl
theorem iv_getD (ns : List Nat) (p : Nat) : (iv ns).getD p 0 = ((ns.getD p 0 : Nat) : Int) := by
  unfold iv
  rw [List.getD_eq_getElem?_getD, List.getElem?_map, List.getD_eq_getElem?_getD]
  cases ns[p]? <;> rfl
/-- the whole: refused where the parts are too many; else the words fit and stand apart -/
theorem words_whole {ns : List Nat} (hn : ∀ n ∈ ns, n ≤ 12) :
    (okW ns (buckets (fun i => (iv ns).getD i 0) ns.length) (startW ns) = false → 4096 < (ns.map wt).sum) ∧
    (okW ns (buckets (fun i => (iv ns).getD i 0) ns.length) (startW ns) = true → (ns.map wt).sum ≤ 4096 ∧ (wordsOf ns).length = ns.length ∧ (∀ p, p < ns.length → Bits ((wordsOf ns).getD p []) ∧ ((wordsOf ns).getD p []).length = ns.getD p 0) ∧
      ∀ p q, p < ns.length → q < ns.length → p ≠ q → ((wordsOf ns).getD q []).take ((wordsOf ns).getD p []).length ≠ (wordsOf ns).getD p []) := by
  have ho := order_iv hn
  have perm : (orderOf (iv ns)).Perm (List.range ns.length) := by
    unfold orderOf
    rw [iv_len]
    exact List.mergeSort_perm ..
  have srt : (orderOf (iv ns)).Pairwise (fun p q => ns.getD p 0 ≤ ns.getD q 0) := by
    have tr : ∀ a b c : Nat, leK (fun i => (iv ns).getD i 0) a b = true → leK (fun i => (iv ns).getD i 0) b c = true → leK (fun i => (iv ns).getD i 0) a c = true := fun a b c h1 h2 => by
      unfold leK at *
      have := of_decide_eq_true h1
      have := of_decide_eq_true h2
      exact decide_eq_true (by omega)
    have to : ∀ a b : Nat, (leK (fun i => (iv ns).getD i 0) a b || leK (fun i => (iv ns).getD i 0) b a) = true := fun a b => by
      unfold leK
      rw [Bool.or_eq_true, decide_eq_true_eq, decide_eq_true_eq]
      omega
    have := List.pairwise_mergeSort tr to (List.range (iv ns).length)
    refine List.Pairwise.imp (fun {a b} h => ?_) this
    have h2 := of_decide_eq_true h
    have h3 : (iv ns).getD a 0 ≤ (iv ns).getD b 0 := h2
    rw [iv_getD, iv_getD] at h3
    omega
  rw [← ho]
  have hg : ∀ p, ns.getD p 0 ≤ 12 := fun p => by
    rw [List.getD_eq_getElem?_getD]
    cases e : ns[p]? with
    | none => exact Nat.zero_le _
    | some n => exact hn n (List.mem_of_getElem? e)
  have main := iv_run (ns := ns) (orderOf (iv ns)) [] (startW ns) (iv_start ns) (perm.nodup_iff.mpr List.nodup_range) (fun p hp => ⟨List.mem_range.mp (perm.mem_iff.mp hp), (fun z => nomatch z), hg p⟩) srt (fun w hw => nomatch hw)
  have es : sumW ns (orderOf (iv ns)) = (ns.map wt).sum := by
    rw [← sum_range]
    unfold sumW
    exact (perm.map _).sum_nat
  refine ⟨fun z => ?_, fun z => ?_⟩
  · have := main.2 z
    rw [es] at this
    have s0 : sumW ns [] = 0 := rfl
    omega
  · have I := main.1 z
    have hw : ((orderOf (iv ns)).foldl (stepW ns) (startW ns)).1 = wordsOf ns := by
      unfold wordsOf
      rw [ho]
    have sr : sumW ns ((orderOf (iv ns)).reverse ++ []) = (ns.map wt).sum := by
      rw [← es, List.append_nil]
      unfold sumW
      exact ((List.reverse_perm _).map _).sum_nat
    have mem : ∀ p, p < ns.length → p ∈ (orderOf (iv ns)).reverse ++ [] := fun p hp => by
      rw [List.append_nil, List.mem_reverse]
      exact perm.mem_iff.mpr (List.mem_range.mpr hp)
    refine ⟨?_, by rw [← hw]; exact I.len, fun p hp => ?_, fun p q hp hq ne => ?_⟩
    · rw [← sr]
      cases e : ((orderOf (iv ns)).foldl (stepW ns) (startW ns)).2 with
      | none =>
        rw [I.no e]
        exact Nat.zero_le _
      | some w =>
        have := (I.last w e).2.2
        omega
    · rw [← hw]
      have := I.each p (mem p hp)
      exact ⟨this.1, this.2.1⟩
    · rw [← hw]
      have l := (I.each q (mem q hq)).2.1
      exact ap_no (by rw [l]; exact hg q) (I.apart p (mem p hp) q (mem q hq) ne)
theorem okW_snoc {ns : List Nat} (p : Nat) : ∀ (l : List Nat) (st : List (List Nat) × Option (List Nat)), okW ns l st = true → (∀ w, (l.foldl (stepW ns) st).2 = some w → ∃ i, lastOne w = some i) → okW ns (l ++ [p]) st = true
  | [], st, _, h => by
    show ((match st.2 with | none => true | some w => (lastOne w).isSome) && true) = true
    cases e : st.2 with
    | none => rfl
    | some w =>
      obtain ⟨i, hi⟩ := h w e
      show ((lastOne w).isSome && true) = true
      rw [hi]
      rfl
  | q :: r, st, ok, h => by
    have ok : ((match st.2 with | none => true | some w => (lastOne w).isSome) && okW ns r (stepW ns st q)) = true := ok
    rw [Bool.and_eq_true] at ok
    show ((match st.2 with | none => true | some w => (lastOne w).isSome) && okW ns (r ++ [p]) (stepW ns st q)) = true
    rw [Bool.and_eq_true]
    exact ⟨ok.1, okW_snoc p r _ ok.2 h⟩
end Fp

set_option Elab.async false
set_option linter.all false
set_option maxRecDepth 100000
set_option maxHeartbeats 4000000
/-! within an except suite (and in defs called from one): a list comprehension, isinstance of the handled error. -/
namespace Fp
open PySem PySem.Spec PyProof.Rows L2 L2H HotX
section
variable {X : Cx}
/-- the block of a comprehension that keeps the pins of the def around it -/
abbrev hotBlk (X : Cx) (s : Shared) (H : Hp) (scope : Scope) (ce : Env) (fp : List Addr) : Cx := { X.blk s H scope ce fp with pn := X.pn }
theorem hotBlk_hot {s : Shared} {H : Hp} {scope : Scope} {ce : Env} {fp : List Addr} (hc : HotC X) : HotC (hotBlk X s H scope ce fp) := hc
theorem hotBlk_inv {pins : List (Addr × Obj)} {σ τ : L2.St} {H H' : Hp} {s s' : Shared} {scope : Scope} {ce : Env} {fp : List Addr} (I : Inv X pins σ H s) (J : Inv (X.blk s H scope ce fp) [] τ H' s') (k : ∀ b o, s.heap.get? b = some o → s'.heap.get? b = some o) (hH : ∀ b, H b = none → b < s.heap.objs.size → H' b = none) (hl : s.heap.objs.size ≤ ce.locals) :
    Inv (hotBlk X s H scope ce fp) [] τ H' s' :=
  ⟨⟨J.ok.mod, J.ok.kind, J.ok.glob, J.ok.blt, J.ok.above, J.ok.inj, J.ok.has, J.ok.cab, J.ok.hd, J.ok.frames, J.ok.stk, J.ok.exf, J.ok.bs, J.ok.bsz, J.ok.noex, J.ok.exfs, J.ok.funs, J.ok.frf⟩, J.os, J.bare, J.base, J.loc, J.cell, J.free, J.freeC, fun p hp => by
    have hp : p ∈ X.pn := by simpa using hp
    obtain ⟨g, f, l, n, c⟩ := I.pin p (List.mem_append_left _ hp)
    have lt := Heap.lt_size g
    refine ⟨k _ _ g, hH _ f lt, fun z => ?_, fun hm => ?_, c⟩
    · have z : p.1 = ce.locals := z
      rw [z] at lt
      exact absurd lt (Nat.not_lt.mpr hl)
    · exact (List.mem_cons.mp (I.stkSub p.1 hm)).elim l n, J.hok, J.len⟩
theorem pe_lcHot {elt tg iter : Expr} {scope : Scope} {own : List (Str × Nat)} {pos : Pos} {wi : TI} {g : TG} {te : TE} (hc : HotC X) (hN : X.N.Nodup) (hi : PIH X tg iter wi) (ok : BlkOk X.N X.env.scope scope own)
    (hg : ∀ (s : Shared) (H : Hp) (C : Addr) (cl : List (Str × Addr)) (fp : List Addr), PG (hotBlk X s H scope (compEnvC scope cl C X.env) fp) tg g)
    (he : ∀ (s : Shared) (H : Hp) (C : Addr) (cl : List (Str × Addr)) (fp : List Addr), PE (hotBlk X s H scope (compEnvC scope cl C X.env) fp) elt te) (hs : ∀ x, foldedSetIterable iter X.env x = pure x := by intro _; rfl) :
    PE X (.ListComp elt [⟨tg, iter, [], 0⟩] scope pos) (tLc wi g tYes te (own.map (·.2))) := by
  refine ⟨fun pins s σ H Q I h => ?_⟩
  rw [eval_ListComp]
  have cf : ∀ y ∈ scope.names, y.2 = .free → ∃ c, X.env.cells.lookup y.1 = some c := fun y hy e => (ok.free y hy e).elim (fun k => I.ok.has _ (.inl k)) (fun k => I.ok.has _ (.inr k))
  refine wpAny_comprehension_free rfl hs (closure_ok cf) ok.kind (fun y hy e => by rw [ok.uniq y hy, e]) (thn (hi.run pins s σ H _ I h) fun xv s1 hx => thn hx fun itv s2 h2 => ?_)
  obtain ⟨it, fp, tn, J, H2, rfl, I2, T, st2, f2, q⟩ := h2
  refine wpAny_newObj_type (newEnv_comp ?_) (by show 0 ≤ sizeLine; decide)
  obtain ⟨D, hD⟩ : ∃ D, s2.heap.objs.size = D := ⟨_, rfl⟩
  obtain ⟨s3, e3⟩ : ∃ s3 : Shared, s3 = { s2 with heap := s2.heap.push { cls := .type "list", data := .seq ([] : List Value).toArray } } := ⟨_, rfl⟩
  obtain ⟨H3, eH⟩ : ∃ H3 : Hp, H3 = upd H2 D (.lst []) := ⟨_, rfl⟩
  obtain ⟨W, ⟨m0, w0⟩, turn⟩ := q D (I2.hok.fresh (Nat.le_of_eq hD))
  rw [← eH] at w0
  have k23 : ∀ b o, s2.heap.get? b = some o → s3.heap.get? b = some o := fun b o z => by
    rw [e3]
    exact Heap.get?_push_of_some _ z
  have z23 : s3.heap.objs.size = s2.heap.objs.size + 1 := by rw [e3]; exact Heap.size_push ..
  have I3 : Inv X pins σ H3 s3 := by
    rw [e3, eH]
    refine I2.laid (t' := s2.toks) (fun b o z => Heap.get?_push_of_some _ z) (Nat.le_of_eq hD) ⟨Nat.zero_le _, [], 0, .nil, ?_⟩
    rw [← hD]
    exact Heap.get?_push_size _ rfl
  have f3 : ∀ b ∈ fp, FpOk X pins H3 b ∧ b < s3.heap.objs.size := fun b hb => by
    obtain ⟨o, z, _⟩ := T.obj _ _ st2 b hb
    have lt := Heap.lt_size z
    refine ⟨⟨?_, (f2 b hb).2⟩, by rw [z23]; exact Nat.lt_succ_of_lt lt⟩
    rw [eH, upd_ne (by rw [← hD]; exact Nat.ne_of_lt lt)]
    exact (f2 b hb).1
  obtain ⟨ce, ece⟩ : ∃ ce : Env, ce = compEnvC scope (cellsFrom (s3.heap.objs.size + 1) scope.names (cloFrom X.env.cells scope.names [])) s3.heap.objs.size X.env := ⟨_, rfl⟩
  obtain ⟨s4, e4⟩ : ∃ s4 : Shared, s4 = { s3 with heap := pushCells (s3.heap.push { cls := .type "dict", data := .dict #[] }) scope.names } := ⟨_, rfl⟩
  have k34 : ∀ b o, s3.heap.get? b = some o → s4.heap.get? b = some o := fun b o z => by
    rw [e4]
    exact pushCells_keeps _ _ _ _ (Heap.get?_push_of_some _ z)
  have cL : ce.locals = s3.heap.objs.size := by rw [ece]; rfl
  have I4 : Inv (hotBlk X s3 H3 scope ce fp) [] (wipe σ (own.map (·.2))) H3 s4 := by
    refine hotBlk_inv I3 ?_ k34 (fun b z _ => z) (Nat.le_of_eq cL.symm)
    rw [ece, e4]
    exact block_start I3 ok hN f3
  have pg : PG (hotBlk X s3 H3 scope ce fp) tg g := by rw [ece]; exact hg _ _ _ _ _
  have pe : PE (hotBlk X s3 H3 scope ce fp) elt te := by rw [ece]; exact he _ _ _ _ _
  have st4 : tn 0 s4.heap := T.keep _ _ _ st2 fun b _ o z => k34 _ _ (k23 _ _ z)
  have fpb : ∀ {τ : L2.St} {H' : Hp} {s' : Shared}, Inv (hotBlk X s3 H3 scope ce fp) [] τ H' s' → (∀ b ∈ fp, H' b = none) → ∀ b ∈ fp, FpOk (hotBlk X s3 H3 scope ce fp) [] H' b := fun {τ H' s'} I' hn b hb =>
    ⟨hn b hb, (I'.ok.exf b hb).1, I'.ok.exfs b hb, .inl hb, fun x c z => (I'.ok.exf b hb).2 x c z, fun p hp => (f3 b hb).1.2.2.2.2.2 p (List.mem_append_left _ (by simpa using hp))⟩
  have hot4 : HotC (hotBlk X s3 H3 scope ce fp) := hc
  show codeAny _ _ (.compStart (.ListComp elt [⟨tg, iter, [], 0⟩] scope pos) 0 (.ref it) (.ref s2.heap.objs.size) _) _ _
  rw [← e3, ← e4, hD]
  show codeAny _ _ (.compStart _ 0 _ _ (compEnvC scope (cellsFrom (s3.heap.objs.size + 1) scope.names (cloFrom X.env.cells scope.names [])) s3.heap.objs.size X.env)) (compPost _ _ _ none _ _ s3.heap.objs.size) _
  rw [← ece, ← cL]
  have loop : codeAny (model X.prog X.w) X.A (.compLoop (.ListComp elt [⟨tg, iter, [], 0⟩] scope pos) 0 (.ref it) (.ref D) ce) (compPost (model X.prog X.w) X.A X.xe none (EP X pins σ Q) (.ref D) ce.locals) s4 := by
    refine compLoop_any (fun n s' => ∃ i H', Inv (hotBlk X s3 H3 scope ce fp) [] (wipe σ (own.map (·.2))) H' s' ∧ tn i s'.heap ∧ (∀ b ∈ fp, H' b = none) ∧ W i n H') ?_ m0 ⟨0, H3, I4, st4, fun b hb => (f3 b hb).1.1, w0⟩
    rintro n s5 ⟨i, H5, I5, st5, n5, w5⟩
    rcases turn i n H5 w5 with ⟨stop, qq⟩ | ⟨go, Nx, hNx, step⟩
    · refine thnF (T.done (hotBlk X s3 H3 scope ce fp) rfl rfl rfl hot4 i [] s5 _ H5 (fun _ _ => False) I5 (fpb I5 n5) st5 stop) fun r s6 ⟨hr, I6⟩ => ?_
      subst hr
      have I7 : Inv X pins σ H5 s6 := I3.call' (ch := fp) I6.os I6.base I6.hok I6.bare fun b hb => ⟨(f3 b hb).1.2.2.2.1, (f3 b hb).1.2.1, (f3 b hb).1.2.2.2.2.1, (f3 b hb).1.2.2.2.2.2⟩
      obtain ⟨m, hn, _⟩ := I6.loc
      have fr : FpOk X pins H5 ce.locals := I3.fpOk (Nat.le_of_eq cL.symm) I6.free
      refine ⟨m, hn, fun h'' sb => ?_⟩
      exact ⟨.ref D, H5, I7.turned (t' := s6.toks) (fun b o hb z => (sb.2 b hb).trans z) fr.1 fr.2.1 fr.2.2.2.1 fr.2.2.2.2.1 fr.2.2.2.2.2, rfl, qq⟩
    · refine thnF (T.item (hotBlk X s3 H3 scope ce fp) rfl rfl rfl hot4 i [] s5 _ H5 (fun _ _ => False) I5 (fpb I5 n5) st5 go) fun r s6 ⟨u, hr, h6⟩ => ?_
      subst hr
      refine thnF h6 fun _ s7 ⟨x, H7, I7, r7, y7, st7, n7⟩ => ?_
      refine thnF (pg.run _ s7 _ H7 x u _ (I7.pinned (fpb I7 n7) (T.obj _ _ st7)) r7 (step x H7 y7)) fun _ s8 ⟨σ8, H8, I8, hw8, q8⟩ => ?_
      refine thnF ((pts_nil (X := hotBlk X s3 H3 scope ce fp)).run _ s8 σ8 H8 (fun b H' => b = true ∧ te σ8 H' fun y H4 => ∃ acc, H4 D = some (.lst acc) ∧ acc.length < sizeLine ∧ Nx (upd H4 D (.lst (acc ++ [y])))) I8 ⟨rfl, q8⟩) fun b s8' ⟨H8', I8', hb, q8'⟩ => ?_
      subst hb
      rw [if_pos rfl]
      refine thnF (pe.run _ s8' σ8 H8' _ I8' q8') fun z s9 ⟨yv, H9, I9, r9, acc, hD9, hz9, nx⟩ => ?_
      refine app_ok (X := hotBlk X s3 H3 scope ce fp) I9 hD9 hz9 r9 fun s10 I10 => ?_
      obtain ⟨m', hm, w'⟩ := hNx _ nx
      have back : ∀ b ∈ fp, ∀ o, s7.heap.get? b = some o → s10.heap.get? b = some o ∧ _ := fun b hb o e =>
        let z := I10.pin (b, o) (List.mem_append_right _ (List.mem_append_right _ (mem_pinsAt hb e)))
        (⟨z.1, z.2.1⟩ : s10.heap.get? b = some o ∧ upd H9 D (.lst (acc ++ [yv])) b = none)
      refine ⟨m', hm, i + 1, _, (I10.unpinned (pins := [])).weak (by rw [← hw8, wipe_length]) (fun j v e => ?_), T.keep _ _ _ st7 fun b hb o e => (back b hb o e).1, fun b hb => ?_, w'⟩
      · rw [← hw8] at e
        exact (wipe_some e).1
      · obtain ⟨o, e, _⟩ := T.obj _ _ st7 b hb
        exact (back b hb o e).2
  exact codeAny_compStart_list loop (T.self X.A 0 _ _ _ st4 loop)
end
/-! ### defs that take the handled error -/
/-- the def f keeps spx, told of the handled error: its address, class and dict -/
structure FnP (P : Program) (w : World) (K : PySem.W.Frag) (mg : Str → Option Value) (base : Heap) (k : Nat) (f : Addr) (fd : FuncData) (ps : List Str) (spx : Addr → Value → Option Addr → Sp) : Prop where
  len : ∀ a cls d vs H Q E, spx a cls d vs H Q E → vs.length = ps.length
  run : ∀ (A : Around) (outer : List Env) (s : Shared) (H : Hp) (args : Args) (us : List Value) (vs : List V) (Q : VK) (p : Addr × Obj) (cls : Value) (d : Option Addr), RoomH k A → Hot1 A p → Zc cls d p.2 → PinOk outer H s p → Env0 P w K mg base A outer s H → BindsTo s fd args (ps.zip us) → Vals vs us → spx p.1 cls d vs H Q E0 →
    codeAny (model P w) A (.call (.ref f) args) (CR CX0 outer P w H s Q E0) s
theorem fnP_of {P : Program} {w : World} {K : PySem.W.Frag} {mg : Str → Option Value} {base : Heap} {k : Nat} {f : Addr} {x qual : Str} {st : Stmt} {fd : FuncData} {N ps : List Str} {spx : Addr → Value → Option Addr → Sp} (F : Fun K x qual st f fd) (S : FnScope N ps (defScope st))
    (len : ∀ a cls d vs H Q E, spx a cls d vs H Q E → vs.length = ps.length)
    (hbody : ∀ (cdv : Value) (A : Around) (outer : List Env) (s : Shared) (H : Hp) (vs : List V) (Q : VK) (p : Addr × Obj) (cls : Value) (d : Option Addr), Hot1 A p → Zc cls d p.2 → RoomH k (A.deeper (envOfC qual (defScope st) s.heap.objs.size f cdv)) → spx p.1 cls d vs H Q E0 →
      ∃ t, PSs (cxH CX0 P w K mg base N qual (defScope st) f cdv A outer s H E0 p) (defBody st) t ∧ t { nx := fun _ H' => Q .non H', rt := Q } (L2.start N vs) H) :
    FnP P w K mg base (k + 1) f fd ps spx := by
  obtain ⟨oc, od, kV, doc, pm, an, cdv, ct, osl, rfl, lk, hcd⟩ := F.ex
  refine ⟨len, fun A outer s H args us vs Q p cls d hr hot hz hpin e0 hb r hsp => ?_⟩
  have stay : ∀ b o, base.get? b = some o → s.heap.get? b = some o := fun b o z => (e0.bs b o z).1
  have KX := e0.mod.kin.keeps stay
  refine codeAny_call_function hr.depth (KX _ _ lk) rfl S.co S.gen rfl (PySem.W.codeRec_of KX hcd) (hb _ _ _ _ ?_)
  refine wpAny_newFunctionEnv_cells S.kind (fun y hy => (S.par y.1 (List.of_mem_zip hy).1).elim .inl fun z => .inr ⟨z, PySem.W.cellsFrom_some _ _ _ (.inl z)⟩) fun env he s1 y => ?_
  subst he
  refine ⟨(e0.mod.nolimit.keeps stay).keeps y.toInCall.keep, codeAny_func ?_⟩
  obtain ⟨t, ht, hq⟩ := hbody cdv A outer s H vs Q p cls d hot hz (hr.deeper _) hsp
  refine wpAny_mono (ht.run [] s1 (L2.start N vs) H _ (inv_startH S hpin e0 (len _ _ _ _ _ _ _ hsp) r y) hq) (fun fl s' hs => ?_) fun e s' hs => hs
  cases fl with
  | ret u =>
    obtain ⟨v, σ', H', J, rv, z⟩ := hs
    exact ⟨v, H', J.os, J.bare, J.base, J.hok, rv, z⟩
  | next =>
    obtain ⟨σ', H', J, z⟩ := hs
    exact ⟨.non, H', J.os, J.bare, J.base, J.hok, rfl, z⟩
  | brk => exact hs.elim fun _ z => z.elim fun _ z => z.2.elim
  | cont => exact hs.elim fun _ z => z.elim fun _ z => z.2.elim
section
variable {X : Cx}
theorem call_isPin {p : Addr × Obj} {D : Addr} (C : ExcC X.K D) (hp : p ∈ X.pn) (hz : Zc (.ref D) none p.2) (hf : ∃ vs, p.2.data = .fields vs) : CallR X (.builtin "isinstance") (rIsE X.K D p.1) := by
  intro pins s σ H xs us Q I r h
  obtain ⟨c, cv, b, rfl, hcv, e, q⟩ := h
  obtain ⟨u1, u2, rfl, r1, r2⟩ := vals2 r
  obtain rfl : u1 = Value.ref p.1 := r1
  obtain rfl := hcv _ r2
  obtain ⟨hget, _⟩ := I.pin p (List.mem_append_left _ hp)
  obtain ⟨vs, hv⟩ := hf
  obtain ⟨pa, oc, od, oda, osl⟩ := p
  obtain ⟨h1, h2⟩ := hz
  dsimp only at h1 h2 hv
  subst h1 h2 hv
  exact PySem.W.kia_one (PySem.W.handS_kitx_exc C.hg C.hk C.hs C.hd C.ha C.hn C.ht C.hm) I.kIn (⟨hget, rfl, rfl, trivial⟩ : PySem.W.InstAt s.heap pa _ D none) e (fun z => nomatch z) fun tk => ⟨.bl b, H, I.kept (t' := tk) fun _ _ z => z, rfl, q⟩
/-- f(e, ..) within the suite of the error at p -/
def tCallP (spx : Addr → Value → Option Addr → Sp) (a : Addr) (cls : Value) (d : Option Addr) (t : TA) : TE := fun σ H Q => t σ H fun vs H1 => spx a cls d vs H1 Q E0
theorem pe_callP {k : Nat} {f : Addr} {fd : FuncData} {ps : List Str} {spx : Addr → Value → Option Addr → Sp} {x : Str} {q pos : Pos} {e : Expr} {es : List Expr} {t : TA} {p : Addr × Obj} {cls : Value} {d : Option Addr} (F : FnP X.prog X.w X.K X.mg X.base k f fd ps spx) (hr : RoomH k X.A) (hp : p ∈ X.pn) (hot : Hot1 X.A p) (hz : Zc cls d p.2)
    (hg : Gl X x) (hm : X.mg x = some (.ref f)) (hk : PySem.W.keepIn X.K (.ref f) = true) (hb : Binds X.K fd ps []) (ha : PA X (e :: es) t)
    (hdb : (x == ("__debug__" : Str)) = false := by decide) (he : starEach (e :: es) X.env = (false, eval e X.env) :: starEach es X.env := by rfl) (hpl : (backTo pos (starEach es X.env)).any (·.1) = false := by rfl) :
    PE X (.Call (.Name x q) (e :: es) [] pos) (tCallP spx p.1 cls d t) := by
  refine ⟨fun pins s σ H Q I h => ?_⟩
  refine wpAny_Call_Name_kw (ld_glob I hg hm ?_ hdb)
  refine PySem.W.callWith_K (h₀ := X.base) I.ok.mod.kin hk (thn (ha.run pos pins s σ H _ I h) fun us s1 ⟨vs, H1, I1, r, h1⟩ => ⟨I1.kIn, ?_⟩) he hpl
  have hl : us.length = ps.length := by rw [← r.length]; exact F.len _ _ _ _ _ _ _ h1
  have b := hb s1 us I1.kIn (by rw [List.append_nil]; exact hl)
  rw [List.append_nil] at b
  have P1 := I1.pin p (List.mem_append_left _ hp)
  have hpin : PinOk X.stack H1 s1 p := ⟨P1.1, P1.2.1, fun hm => (List.mem_cons.mp (I1.stkSub p.1 hm)).elim P1.2.2.1 P1.2.2.2.1, P1.2.2.2.2⟩
  refine wpAny_call (codeAny_mono (F.run X.A X.stack s1 H1 ⟨us, []⟩ us vs Q p cls d hr hot hz hpin I1.env0 b r h1) fun r s' hq => ?_)
  cases r with
  | error e => exact False.elim hq
  | ok fl =>
    cases fl with
    | ret u => exact I1.after hq
    | next => exact False.elim hq
    | brk => exact False.elim hq
    | cont => exact False.elim hq
end
theorem pe_callE {X : Cx} {k : Nat} {f : Addr} {fd : FuncData} {ps : List Str} {spx : Addr → Value → Option Addr → Sp} {x : Str} {q pos : Pos} {e : Expr} {es : List Expr} {t : TA} {a : Addr} {oe : Obj} {cls : Value} {d : Option Addr} (F : FnP X.prog X.w X.K X.mg X.base k f fd ps spx) (hr : RoomH k X.A) (hp : (a, oe) ∈ X.pn) (hot : Hot1 X.A (a, oe)) (hz : Zc cls d oe)
    (hg : Gl X x) (hm : X.mg x = some (.ref f)) (hk : PySem.W.keepIn X.K (.ref f) = true) (hb : Binds X.K fd ps []) (ha : PA X (e :: es) t)
    (hdb : (x == ("__debug__" : Str)) = false := by decide) (he : starEach (e :: es) X.env = (false, eval e X.env) :: starEach es X.env := by rfl) (hpl : (backTo pos (starEach es X.env)).any (·.1) = false := by rfl) :
    PE X (.Call (.Name x q) (e :: es) [] pos) (tCallP spx a cls d t) := pe_callP (p := (a, oe)) F hr hp hot hz hg hm hk hb ha hdb he hpl
theorem roomH_mark {j k : Nat} {A : Around} {v : Option Value} (r : Room k A) (h : j ≤ k) : RoomH j (A.mark v) := (roomH_of (r.mono h) : RoomH j A).rec fun d u => ⟨d, u⟩
theorem _root_.L2H.RoomH.units {k : Nat} {A : Around} (r : RoomH k A) : A.units + 64 < cLine := by
  have := r.un
  omega
theorem takes0N {X : Cx} : L2N.Takes X (fun _ _ _ _ => False) := fun _ _ x => by
  obtain ⟨_, _, _, _, _, _, _, _, _, _, _, _, _, _, _, _, z⟩ := x
  exact z.elim
theorem okXN {P : Program} {w : World} {K : PySem.W.Frag} {mg : Str → Option Value} {base : Heap} {x qual : Str} {st : Stmt} {f : Addr} {fd : FuncData} {N ps : List Str} {k : Nat} {sp : Sp} (F : Fun K x qual st f fd) (S : FnScope N ps (defScope st)) (len : ∀ vs H Q E, sp vs H Q E → vs.length = ps.length)
    (hbody : ∀ (cdv : Value) (A : Around) (outer : List Env) (s : Shared) (H : Hp) (vs : List V) (Q : VK) (E : XK), Room k (A.deeper (envOfC qual (defScope st) s.heap.objs.size f cdv)) → sp vs H Q E →
      ∃ t, PSs (cxOf (L2N.CX P w) P w K mg base N qual (defScope st) f cdv A outer s H E) (defBody st) t ∧ t { nx := fun _ H' => Q .non H', rt := Q } (L2.start N vs) H) : FnOk P w K mg base (L2N.CX P w) (k + 1) f fd ps sp := by
  obtain ⟨oc, od, kV, doc, pm, an, cdv, ct, osl, rfl, lk, hcd⟩ := F.ex
  exact fn_of lk hcd S len fun A outer s H vs Q E hr hsp => hbody cdv A outer s H vs Q E hr hsp
theorem kit_own {K : PySem.W.Frag} {D C : Addr} {b : Bool} (h0 : PySem.W.subIn K (.ref D) (.ref D) = some true) (hi : PySem.W.isClsIn K C = true) (ht : PySem.W.typeIn K (.ref C) = some (.type "type")) (hs : PySem.W.subIn K (.ref D) (.ref C) = some b) : PySem.W.kitOne K (.ref D) (.ref C) = some b := by
  unfold PySem.W.isClsIn at hi
  unfold PySem.W.kitOne
  by_cases e : D = C
  · subst e
    rw [h0] at hs
    rw [if_pos (beq_self_eq_true _), hs]
  · rw [if_neg (by simp [e])]
    simp [PySem.W.kitCls, hi, ht, hs]
theorem kit_ve {K : PySem.W.Frag} {D : Addr} (h : PySem.W.subIn K (.ref D) (.type "ValueError") = some true) : PySem.W.kitOne K (.ref D) (.type "ValueError") = some true := by
  unfold PySem.W.kitOne
  rw [if_neg (by simp)]
  unfold PySem.W.kitCls
  show (if PySem.W.kitMeta "ValueError" = true then _ else _) = _
  rw [if_pos (by decide +kernel)]
  exact h
theorem exm_sub {K : PySem.W.Frag} {D C : Addr} (h1 : PySem.W.subIn K (.ref C) (.type "BaseException") = some true) (hi : PySem.W.isClsIn K C = true) (ht : PySem.W.typeIn K (.ref C) = some (.type "type")) (hs : PySem.W.subIn K (.ref D) (.ref C) = some true) : PySem.W.exmOne K (.ref D) (.ref C) = some true := by
  unfold PySem.W.isClsIn at hi
  simp [PySem.W.exmOne, PySem.W.kitCls, h1, hi, ht, hs]
end Fp

set_option Elab.async false
set_option linter.all false
set_option maxRecDepth 100000
set_option maxHeartbeats 4000000
/-! The first place of a sign in a text; the runs of a row. -/
namespace Fp
open PySem L2 PyProof.Rows
def oth (c : Nat) : Nat := if c = 46 then 35 else 46
theorem oth_46 : oth 46 = 35 := rfl
theorem oth_35 : oth 35 = 46 := rfl
theorem oth_cell (c : Nat) : Cell (oth c) := by
  unfold oth
  split
  · exact .inr rfl
  · exact .inl rfl
theorem oth_ne {c : Nat} (h : Cell c) : oth c ≠ c := by
  rcases h with rfl | rfl <;> decide
theorem oth_oth {c : Nat} (h : Cell c) : oth (oth c) = c := by
  rcases h with rfl | rfl <;> rfl
theorem cell_ne {c x : Nat} (hc : Cell c) (hx : Cell x) (n : x ≠ oth c) : x = c := by
  rcases hc with rfl | rfl <;> rcases hx with rfl | rfl <;> first | rfl | exact absurd rfl n
/-- the first place of c in l, from s on; l's end where there is none -/
def fp (l : List Nat) (c s : Nat) : Nat := if s ≤ l.length then s + ((l.drop s).takeWhile (fun x => decide (x ≠ c))).length else l.length
theorem tw_spec (c : Nat) : ∀ l : List Nat, (∀ v, v < (l.takeWhile (fun x => decide (x ≠ c))).length → l[v]? ≠ some c) ∧ (l.takeWhile (fun x => decide (x ≠ c))).length ≤ l.length ∧ ((l.takeWhile (fun x => decide (x ≠ c))).length < l.length → l[(l.takeWhile (fun x => decide (x ≠ c))).length]? = some c)
  | [] => ⟨fun v h => by simp at h, by simp, fun h => by simp at h⟩
  | x :: r => by
    obtain ⟨h1, h2, h3⟩ := tw_spec c r
    by_cases e : x = c
    · subst e
      have z : (x :: r).takeWhile (fun y => decide (y ≠ x)) = [] := by
        rw [List.takeWhile_cons]
        simp
      rw [z]
      exact ⟨fun v h => by simp at h, by simp, fun _ => rfl⟩
    · have z : (x :: r).takeWhile (fun y => decide (y ≠ c)) = x :: r.takeWhile (fun y => decide (y ≠ c)) := by
        rw [List.takeWhile_cons]
        simp [e]
      rw [z]
      refine ⟨fun v h => ?_, ?_, fun h => ?_⟩
      · cases v with
        | zero => exact fun q => e (Option.some.inj q)
        | succ v =>
          have h' : v < (r.takeWhile (fun y => decide (y ≠ c))).length := by
            rw [List.length_cons] at h
            omega
          exact h1 v h'
      · rw [List.length_cons, List.length_cons]
        omega
      · rw [List.length_cons, List.length_cons] at h
        rw [List.length_cons, List.getElem?_cons_succ]
        exact h3 (by omega)
theorem fp_spec {l : List Nat} {c s : Nat} (h : s ≤ l.length) : s ≤ fp l c s ∧ fp l c s ≤ l.length ∧ (∀ v, s ≤ v → v < fp l c s → l[v]? ≠ some c) ∧ (fp l c s < l.length → l[fp l c s]? = some c) := by
  obtain ⟨h1, h2, h3⟩ := tw_spec c (l.drop s)
  unfold fp
  rw [if_pos h]
  rw [List.length_drop] at h2 h3
  refine ⟨by omega, by omega, fun v a b => ?_, fun b => ?_⟩
  · have := h1 (v - s) (by omega)
    rw [List.getElem?_drop, show s + (v - s) = v by omega] at this
    exact this
  · have := h3 (by omega)
    rw [List.getElem?_drop] at this
    exact this
theorem fp_uniq {l : List Nat} {c s k : Nat} (h : s ≤ l.length) (h1 : s ≤ k) (h2 : k ≤ l.length) (h3 : ∀ v, s ≤ v → v < k → l[v]? ≠ some c) (h4 : k < l.length → l[k]? = some c) : fp l c s = k := by
  obtain ⟨a1, a2, a3, a4⟩ := fp_spec (c := c) h
  by_cases e1 : fp l c s < k
  · exact absurd (a4 (by omega)) (h3 _ a1 e1)
  · by_cases e2 : k < fp l c s
    · exact absurd (h4 (by omega)) (a3 _ h1 e2)
    · omega
theorem fp_le (l : List Nat) (c s : Nat) : fp l c s ≤ l.length := by
  by_cases h : s ≤ l.length
  · exact (fp_spec h).2.1
  · unfold fp
    rw [if_neg h]
    exact Nat.le_refl _
theorem sOf_getD (l : List Nat) (v : Nat) : (sOf l).cps.getD v 0 = (l[v]?).getD 0 := by
  show (l.toArray).getD v 0 = _
  simp [Array.getD]
  by_cases h : v < l.length
  · rw [dif_pos h, List.getElem?_eq_getElem h]
    rfl
  · rw [dif_neg h, List.getElem?_eq_none (by omega)]
    rfl
/-- find, and what first_place makes of it -/
theorem find3_fp (l : List Nat) (c s : Nat) : (Txt.find3 (sOf l) (sOf [c]) (s : Int) < 0 ∧ fp l c s = l.length) ∨ (Txt.find3 (sOf l) (sOf [c]) (s : Int) = (fp l c s : Int)) := by
  have e : PySem.fromIndex (sOf l).length (s : Int) = s := by
    unfold PySem.fromIndex
    rw [if_neg (by omega)]
    omega
  rcases StrLaws.find3_spec (sOf l) c (s : Int) with ⟨h1, h2⟩ | ⟨k, h1, h2, h3, h4, h5⟩
  · left
    refine ⟨by rw [show sOf [c] = ⟨#[c]⟩ from rfl, h1]; decide, ?_⟩
    by_cases h : s ≤ l.length
    · refine fp_uniq h h (Nat.le_refl _) (fun v a b => ?_) (fun z => absurd z (Nat.lt_irrefl _))
      have := h2 v (by rw [e]; exact a) (by rw [sOf_len]; exact b)
      rw [sOf_getD, List.getElem?_eq_getElem b] at this
      rw [List.getElem?_eq_getElem b]
      exact fun q => this (Option.some.inj q)
    · unfold fp
      rw [if_neg h]
  · right
    rw [e] at h2 h5
    rw [sOf_len] at h3
    rw [show sOf [c] = ⟨#[c]⟩ from rfl, h1]
    congr 1
    symm
    refine fp_uniq (by omega) h2 (by omega) (fun v a b => ?_) (fun _ => ?_)
    · have := h5 v a b
      have b' : v < l.length := by omega
      rw [sOf_getD, List.getElem?_eq_getElem b'] at this
      rw [List.getElem?_eq_getElem b']
      exact fun q => this (Option.some.inj q)
    · rw [sOf_getD, List.getElem?_eq_getElem h3] at h4
      rw [List.getElem?_eq_getElem h3]
      exact congrArg some h4
/-- the runs: what is left, the colour, how many of it stand ahead -/
def runsFrom : List Nat → Nat → Nat → List Nat
  | [], _, k => [k]
  | x :: r, c, k => if x = oth c then k :: runsFrom r (oth c) 1 else runsFrom r c (k + 1)
def runsL (l : List Nat) : List Nat := runsFrom l 46 0
theorem runsFrom_ne (l : List Nat) (c k : Nat) : runsFrom l c k ≠ [] := by
  induction l generalizing c k with
  | nil => exact fun h => by cases h
  | cons x r ih =>
    unfold runsFrom
    split
    · exact fun h => by cases h
    · exact ih c (k + 1)
theorem runsFrom_step (c : Nat) (hc : Cell c) : ∀ (l : List Nat) (k : Nat), runsFrom l c k = (k + (l.takeWhile (fun x => decide (x ≠ oth c))).length) :: (if l.drop (l.takeWhile (fun x => decide (x ≠ oth c))).length = [] then [] else runsFrom (l.drop (l.takeWhile (fun x => decide (x ≠ oth c))).length) (oth c) 0)
  | [], k => by simp [runsFrom]
  | x :: r, k => by
    by_cases e : x = oth c
    · have z : (x :: r).takeWhile (fun y => decide (y ≠ oth c)) = [] := by
        rw [List.takeWhile_cons]
        simp [e]
      rw [z]
      have n1 : oth c ≠ oth (oth c) := by
        rcases hc with rfl | rfl <;> decide
      rw [List.length_nil, List.drop_zero, if_neg (by simp)]
      conv => lhs; unfold runsFrom
      conv => rhs; rhs; unfold runsFrom
      rw [if_pos e, if_neg (by rw [e]; exact n1)]
      rfl
    · have z : (x :: r).takeWhile (fun y => decide (y ≠ oth c)) = x :: r.takeWhile (fun y => decide (y ≠ oth c)) := by
        rw [List.takeWhile_cons]
        simp [e]
      rw [z, List.length_cons, List.drop_succ_cons]
      conv => lhs; unfold runsFrom
      rw [if_neg e, runsFrom_step c hc r (k + 1)]
      congr 1
      omega
/-- a step of runs_of at a place -/
theorem runs_at {l : List Nat} {c p : Nat} (hc : Cell c) (hp : p ≤ l.length) : runsFrom (l.drop p) c 0 = (fp l (oth c) p - p) :: (if fp l (oth c) p = l.length then [] else runsFrom (l.drop (fp l (oth c) p)) (oth c) 0) := by
  rw [runsFrom_step c hc]
  have e : fp l (oth c) p = p + ((l.drop p).takeWhile (fun x => decide (x ≠ oth c))).length := by
    unfold fp
    rw [if_pos hp]
  have le := fp_le l (oth c) p
  rw [List.drop_drop, ← e]
  congr 1
  · omega
  · have q : l.drop (fp l (oth c) p) = [] ↔ fp l (oth c) p = l.length := by
      rw [List.drop_eq_nil_iff]
      omega
    by_cases h : fp l (oth c) p = l.length
    · rw [if_pos (q.mpr h), if_pos h]
    · rw [if_neg (fun z => h (q.mp z)), if_neg h]
/-- runs put together -/
def unr : List Nat → Nat → List Nat
  | [], _ => []
  | k :: r, c => List.replicate k c ++ unr r (oth c)
theorem unr_runs {l : List Nat} (h : Row l) {c : Nat} (hc : Cell c) (k : Nat) : unr (runsFrom l c k) c = List.replicate k c ++ l := by
  induction l generalizing c k with
  | nil =>
    show List.replicate k c ++ [] = _
    rfl
  | cons x r ih =>
    have hr : Row r := fun y hy => h y (List.mem_cons_of_mem _ hy)
    unfold runsFrom
    split
    · rename_i e
      show List.replicate k c ++ unr (runsFrom r (oth c) 1) (oth c) = _
      rw [ih hr (oth_cell c), e]
      rfl
    · rename_i e
      rw [ih hr hc, cell_ne hc (h x (List.mem_cons_self ..)) e, List.replicate_succ', List.append_assoc]
      rfl
theorem runs_pos {l : List Nat} {c k : Nat} (hc : Cell c) : ∀ x ∈ (runsFrom l c k).drop 1, 0 < x := by
  have main : ∀ (l : List Nat) (c k : Nat), 0 < k → ∀ x ∈ runsFrom l c k, 0 < x := by
    intro l
    induction l with
    | nil =>
      intro c k hk x hx
      rw [List.mem_singleton.mp hx]
      exact hk
    | cons y r ih =>
      intro c k hk x hx
      unfold runsFrom at hx
      split at hx
      · rcases List.mem_cons.mp hx with e | e
        · rw [e]
          exact hk
        · exact ih _ _ (by decide) x e
      · exact ih _ _ (by omega) x hx
  induction l generalizing c k with
  | nil =>
    intro x hx
    cases hx
  | cons y r ih =>
    intro x hx
    unfold runsFrom at hx
    split at hx
    · exact main _ _ _ (by decide) x hx
    · exact ih hc x hx
theorem unr_len : ∀ (rs : List Nat) (c : Nat), (unr rs c).length = rs.sum
  | [], _ => rfl
  | k :: r, c => by
    show (List.replicate k c ++ unr r (oth c)).length = _
    rw [List.length_append, List.length_replicate, unr_len r, List.sum_cons]
theorem runs_sum {l : List Nat} (h : Row l) : (runsL l).sum = l.length := by
  rw [← unr_len (runsL l) 46]
  unfold runsL
  rw [unr_runs h (.inl rfl)]
  rfl
theorem le_sum {xs : List Nat} {x : Nat} (h : x ∈ xs) : x ≤ xs.sum := by
  induction xs with
  | nil => cases h
  | cons y r ih =>
    rw [List.sum_cons]
    rcases List.mem_cons.mp h with e | e
    · omega
    · have := ih e
      omega
theorem pos_sum : ∀ xs : List Nat, (∀ x ∈ xs, 0 < x) → xs.length ≤ xs.sum
  | [], _ => Nat.le_refl _
  | y :: r, h => by
    have h1 := pos_sum r fun x hx => h x (List.mem_cons_of_mem _ hx)
    have h2 := h y (List.mem_cons_self ..)
    rw [List.sum_cons, List.length_cons]
    omega
theorem runs_len {l : List Nat} (h : Row l) : (runsL l).length ≤ l.length + 1 := by
  have h1 := runs_pos (l := l) (k := 0) (c := 46) (.inl rfl)
  have h2 := pos_sum _ h1
  have h3 := runs_sum h
  unfold runsL at h3 ⊢
  cases e : runsFrom l 46 0 with
  | nil => simp
  | cons y r =>
    rw [e] at h2 h3
    rw [List.sum_cons] at h3
    simp only [List.drop_succ_cons, List.drop_zero] at h2
    rw [List.length_cons]
    omega
/-- the colour of the i-th run -/
def colr (c : Nat) : Nat → Nat
  | 0 => c
  | i + 1 => oth (colr c i)
theorem colr_succ (c : Nat) : ∀ i, colr (oth c) i = oth (colr c i)
  | 0 => rfl
  | i + 1 => by
    show oth (colr (oth c) i) = oth (oth (colr c i))
    rw [colr_succ c i]
theorem colr_mod : ∀ i : Nat, colr 46 i = if i % 2 = 0 then 46 else 35
  | 0 => rfl
  | i + 1 => by
    show oth (colr 46 i) = _
    rw [colr_mod i]
    by_cases h : i % 2 = 0
    · rw [if_pos h, if_neg (by omega)]
      rfl
    · rw [if_neg h, if_pos (by omega)]
      rfl
theorem unr_more : ∀ (rs : List Nat) (c i x : Nat), rs[i]? = some x → unr (rs.take (i + 1)) c = unr (rs.take i) c ++ List.replicate x (colr c i)
  | [], _, _, _, h => by cases h
  | y :: r, c, 0, x, h => by
    have : y = x := Option.some.inj h
    subst this
    show List.replicate y c ++ unr (r.take 0) (oth c) = [] ++ List.replicate y c
    rw [List.take_zero]
    show List.replicate y c ++ [] = _
    rw [List.append_nil, List.nil_append]
  | y :: r, c, i + 1, x, h => by
    show List.replicate y c ++ unr (r.take (i + 1)) (oth c) = (List.replicate y c ++ unr (r.take i) (oth c)) ++ List.replicate x (oth (colr c i))
    rw [unr_more r (oth c) i x h, colr_succ, List.append_assoc]
end Fp

set_option Elab.async false
set_option linter.all false
set_option maxRecDepth 100000
set_option maxHeartbeats 4000000
/-! Texts of bits: slices, numbers written by twos, spoils. -/
namespace Fp
open PySem L2 PyProof.Rows
theorem cutS_upto (l : List Nat) (b : Nat) : cutS (sOf l) none (some (b : Int)) = sOf (l.take b) := by
  unfold cutS
  rw [HT.sIx_nat, sOf_len, sOf_list, HT.sIx_none]
  show sOf ((l.drop 0).take (min b l.length - 0)) = _
  rw [List.drop_zero, Nat.sub_zero]
  congr 1
  by_cases h : b ≤ l.length
  · rw [Nat.min_eq_left h]
  · rw [Nat.min_eq_right (by omega), List.take_length, List.take_of_length_le (by omega)]
theorem cutS_from (l : List Nat) (a : Nat) : cutS (sOf l) (some (a : Int)) none = sOf (l.drop a) := by
  unfold cutS
  rw [HT.sIx_nat, sOf_len, sOf_list, HT.sIx_none]
  congr 1
  by_cases h : a ≤ l.length
  · rw [Nat.min_eq_left h]
    have q : (l.drop a).length ≤ l.length - a := by
      rw [List.length_drop]
      exact Nat.le_refl _
    exact congrArg _ (List.take_of_length_le q)
  · rw [Nat.min_eq_right (by omega), Nat.sub_self, List.take_zero, List.drop_eq_nil_of_le (by omega)]
/-! ### known tests -/
theorem iteD1 {p A B : Prop} [Decidable p] (h : p) (a : A) : if decide p = true then A else B := by
  rw [decide_eq_true h]
  exact iteT a
theorem iteD0 {p A B : Prop} [Decidable p] (h : ¬ p) (b : B) : if decide p = true then A else B := by
  rw [decide_eq_false h]
  exact iteF b
theorem iteN0 {p A B : Prop} [Decidable p] (h : p) (b : B) : if (!decide p) = true then A else B := by
  rw [decide_eq_true h]
  exact iteF b
theorem iteN1 {p A B : Prop} [Decidable p] (h : ¬ p) (a : A) : if (!decide p) = true then A else B := by
  rw [decide_eq_false h]
  exact iteT a
theorem vint {i j : Int} : (V.int i = V.int j) ↔ i = j := ⟨fun h => V.int.inj h, fun h => by rw [h]⟩
theorem vstr {l m : List Nat} : (V.str (sOf l) = V.str (sOf m)) ↔ l = m := ⟨fun h => sOf_inj (V.str.inj h), fun h => by rw [h]⟩
theorem vstr1 {c d : Nat} : (V.str (sOf [c]) = V.str (sOf [d])) ↔ c = d := vstr.trans ⟨fun h => by simpa using h, fun h => by rw [h]⟩
def bitN (i : Int) : Nat := if i = 0 then 48 else 49
theorem bitN_bit (i : Int) : bitN i = 48 ∨ bitN i = 49 := by
  unfold bitN
  split
  · exact .inl rfl
  · exact .inr rfl
theorem bit_at {i : Int} (h0 : 0 ≤ i) (h1 : i < 2) : atI (Str.ofString "01").cps.toList i = some (bitN i) := by
  have : i = 0 ∨ i = 1 := by omega
  rcases this with rfl | rfl <;> rfl
theorem two_len' : (Str.ofString "01").length ≤ sizeLine := by decide
theorem sOf_at {l : List Nat} {i c : Nat} (h : l[i]? = some c) : atI (sOf l).cps.toList (i : Int) = some c := by
  rw [sOf_list]
  exact atI_nat h
--PURE
/-! ### bits -/
def Bts (l : List Nat) : Prop := ∀ c ∈ l, c = 48 ∨ c = 49
theorem Bts.app {l m : List Nat} (h : Bts l) (k : Bts m) : Bts (l ++ m) := fun c hc => by
  rcases List.mem_append.mp hc with e | e
  · exact h c e
  · exact k c e
theorem Bts.nil : Bts [] := fun _ h => nomatch h
theorem Bts.take {l : List Nat} (h : Bts l) (n : Nat) : Bts (l.take n) := fun c hc => h c (List.mem_of_mem_take hc)
theorem Bts.drop {l : List Nat} (h : Bts l) (n : Nat) : Bts (l.drop n) := fun c hc => h c (List.mem_of_mem_drop hc)
theorem Bts.one {c : Nat} (h : c = 48 ∨ c = 49) : Bts [c] := fun x hx => by
  rw [List.mem_singleton.mp hx]
  exact h
theorem Bts.rep {n c : Nat} (hc : c = 48 ∨ c = 49) : Bts (List.replicate n c) := fun x hx => by
  rw [(List.mem_replicate.mp hx).2]
  exact hc
theorem Bts.at {l : List Nat} (h : Bts l) {i c : Nat} (e : l[i]? = some c) : c = 48 ∨ c = 49 := h c (List.mem_of_getElem? e)
/-- a number by twos, m signs -/
def wrB (n m : Nat) : List Nat := (List.range m).map fun j => 48 + n / 2 ^ (m - 1 - j) % 2
theorem wrB_len (n m : Nat) : (wrB n m).length = m := by
  unfold wrB
  rw [List.length_map, List.length_range]
theorem wrB_bts (n m : Nat) : Bts (wrB n m) := fun c hc => by
  unfold wrB at hc
  obtain ⟨j, _, rfl⟩ := List.mem_map.mp hc
  omega
/-! ### spoils -/
inductive Spl where
  | turn (n : Nat)
  | lose (n : Nat)
  | put (n b : Nat)
def flipB (c : Nat) : Nat := if c = 49 then 48 else 49
def once (l : List Nat) : Spl → List Nat
  | .put n b => if n ≤ l.length then l.take n ++ b :: l.drop n else l
  | .turn n => if n < l.length then l.take n ++ flipB ((l[n]?).getD 0) :: l.drop (n + 1) else l
  | .lose n => if n < l.length then l.take n ++ l.drop (n + 1) else l
def spoilL (l : List Nat) (sps : List Spl) : List Nat := sps.foldl once l
def plc : Spl → Nat
  | .put n _ => n
  | .turn n => n
  | .lose n => n
/-- what the sign x at the place i becomes -/
def stepA (sp : Spl) (i : Nat) : List Nat := match sp with
  | .put n b => if i = n then [b] else []
  | _ => []
def stepB (sp : Spl) (i x : Nat) : List Nat := match sp with
  | .put _ _ => [x]
  | .turn n => if i = n then [flipB x] else [x]
  | .lose n => if i = n then [] else [x]
/-- place by place -/
def walkS (sp : Spl) : List Nat → Nat → List Nat
  | [], i => stepA sp i
  | x :: r, i => stepA sp i ++ stepB sp i x ++ walkS sp r (i + 1)
theorem walk_past (sp : Spl) : ∀ (l : List Nat) (i : Nat), plc sp < i → walkS sp l i = l
  | [], i, h => by
    cases sp with
    | put n b => show (if i = n then [b] else []) = []; rw [if_neg (by show ¬ i = n; have : n < i := h; omega)]
    | turn n => rfl
    | lose n => rfl
  | x :: r, i, h => by
    have ih := walk_past sp r (i + 1) (by omega)
    unfold walkS
    rw [ih]
    cases sp with
    | put n b =>
      have : n < i := h
      show (if i = n then [b] else []) ++ [x] ++ r = x :: r
      rw [if_neg (by omega)]
      rfl
    | turn n =>
      have : n < i := h
      show [] ++ (if i = n then [flipB x] else [x]) ++ r = x :: r
      rw [if_neg (by omega)]
      rfl
    | lose n =>
      have : n < i := h
      show [] ++ (if i = n then [] else [x]) ++ r = x :: r
      rw [if_neg (by omega)]
      rfl
def shift (sp : Spl) (i : Nat) : Spl := match sp with
  | .put n b => .put (n - i) b
  | .turn n => .turn (n - i)
  | .lose n => .lose (n - i)
theorem walk_once (sp : Spl) : ∀ (l : List Nat) (i : Nat), i ≤ plc sp → walkS sp l i = once l (shift sp i)
  | [], i, h => by
    cases sp with
    | put n b =>
      have : i ≤ n := h
      show (if i = n then [b] else []) = if n - i ≤ 0 then [].take (n - i) ++ b :: [].drop (n - i) else []
      by_cases e : i = n
      · rw [if_pos e, if_pos (by omega)]
        simp
      · rw [if_neg e, if_neg (by omega)]
    | turn n => rfl
    | lose n => rfl
  | x :: r, i, h => by
    unfold walkS
    by_cases e : i = plc sp
    · rw [walk_past sp r (i + 1) (by omega)]
      cases sp with
      | put n b =>
        have e : i = n := e
        subst e
        show (if i = i then [b] else []) ++ [x] ++ r = if i - i ≤ (x :: r).length then (x :: r).take (i - i) ++ b :: (x :: r).drop (i - i) else x :: r
        rw [if_pos rfl, Nat.sub_self, if_pos (Nat.zero_le _)]
        rfl
      | turn n =>
        have e : i = n := e
        subst e
        show [] ++ (if i = i then [flipB x] else [x]) ++ r = if i - i < (x :: r).length then (x :: r).take (i - i) ++ flipB (((x :: r)[i - i]?).getD 0) :: (x :: r).drop (i - i + 1) else x :: r
        rw [if_pos rfl, Nat.sub_self, if_pos (by rw [List.length_cons]; exact Nat.succ_pos _)]
        rfl
      | lose n =>
        have e : i = n := e
        subst e
        show [] ++ (if i = i then [] else [x]) ++ r = if i - i < (x :: r).length then (x :: r).take (i - i) ++ (x :: r).drop (i - i + 1) else x :: r
        rw [if_pos rfl, Nat.sub_self, if_pos (by rw [List.length_cons]; exact Nat.succ_pos _)]
        rfl
    · have lt : i + 1 ≤ plc sp := by omega
      rw [walk_once sp r (i + 1) lt]
      cases sp with
      | put n b =>
        have lt : i + 1 ≤ n := lt
        obtain ⟨k, rfl⟩ : ∃ k, n = i + 1 + k := ⟨n - (i + 1), by omega⟩
        show (if i = i + 1 + k then [b] else []) ++ [x] ++ (if i + 1 + k - (i + 1) ≤ r.length then r.take (i + 1 + k - (i + 1)) ++ b :: r.drop (i + 1 + k - (i + 1)) else r) = if i + 1 + k - i ≤ (x :: r).length then (x :: r).take (i + 1 + k - i) ++ b :: (x :: r).drop (i + 1 + k - i) else x :: r
        rw [if_neg (by omega), show i + 1 + k - (i + 1) = k by omega, show i + 1 + k - i = k + 1 by omega, List.length_cons]
        by_cases q : k ≤ r.length
        · rw [if_pos q, if_pos (by omega)]
          rfl
        · rw [if_neg q, if_neg (by omega)]
          rfl
      | turn n =>
        have lt : i + 1 ≤ n := lt
        obtain ⟨k, rfl⟩ : ∃ k, n = i + 1 + k := ⟨n - (i + 1), by omega⟩
        show [] ++ (if i = i + 1 + k then [flipB x] else [x]) ++ (if i + 1 + k - (i + 1) < r.length then r.take (i + 1 + k - (i + 1)) ++ flipB ((r[i + 1 + k - (i + 1)]?).getD 0) :: r.drop (i + 1 + k - (i + 1) + 1) else r) = if i + 1 + k - i < (x :: r).length then (x :: r).take (i + 1 + k - i) ++ flipB (((x :: r)[i + 1 + k - i]?).getD 0) :: (x :: r).drop (i + 1 + k - i + 1) else x :: r
        rw [if_neg (by omega), show i + 1 + k - (i + 1) = k by omega, show i + 1 + k - i = k + 1 by omega, List.length_cons]
        by_cases q : k < r.length
        · rw [if_pos q, if_pos (by omega)]
          rfl
        · rw [if_neg q, if_neg (by omega)]
          rfl
      | lose n =>
        have lt : i + 1 ≤ n := lt
        obtain ⟨k, rfl⟩ : ∃ k, n = i + 1 + k := ⟨n - (i + 1), by omega⟩
        show [] ++ (if i = i + 1 + k then [] else [x]) ++ (if i + 1 + k - (i + 1) < r.length then r.take (i + 1 + k - (i + 1)) ++ r.drop (i + 1 + k - (i + 1) + 1) else r) = if i + 1 + k - i < (x :: r).length then (x :: r).take (i + 1 + k - i) ++ (x :: r).drop (i + 1 + k - i + 1) else x :: r
        rw [if_neg (by omega), show i + 1 + k - (i + 1) = k by omega, show i + 1 + k - i = k + 1 by omega, List.length_cons]
        by_cases q : k < r.length
        · rw [if_pos q, if_pos (by omega)]
          rfl
        · rw [if_neg q, if_neg (by omega)]
          rfl
theorem walk_is (sp : Spl) (l : List Nat) : walkS sp l 0 = once l sp := by
  rw [walk_once sp l 0 (Nat.zero_le _)]
  cases sp <;> rfl
theorem once_len (l : List Nat) (sp : Spl) : (once l sp).length ≤ l.length + 1 := by
  cases sp with
  | put n b =>
    show (if n ≤ l.length then l.take n ++ b :: l.drop n else l).length ≤ _
    split
    · rw [List.length_append, List.length_cons, List.length_take, List.length_drop]
      omega
    · omega
  | turn n =>
    show (if n < l.length then l.take n ++ flipB ((l[n]?).getD 0) :: l.drop (n + 1) else l).length ≤ _
    split
    · rw [List.length_append, List.length_cons, List.length_take, List.length_drop]
      omega
    · omega
  | lose n =>
    show (if n < l.length then l.take n ++ l.drop (n + 1) else l).length ≤ _
    split
    · rw [List.length_append, List.length_take, List.length_drop]
      omega
    · omega
def BitS : Spl → Prop
  | .put _ b => b = 48 ∨ b = 49
  | _ => True
theorem flipB_bit (c : Nat) : flipB c = 48 ∨ flipB c = 49 := by
  unfold flipB
  split
  · exact .inl rfl
  · exact .inr rfl
theorem once_bts {l : List Nat} {sp : Spl} (h : Bts l) (hs : BitS sp) : Bts (once l sp) := by
  cases sp with
  | put n b =>
    show Bts (if n ≤ l.length then l.take n ++ b :: l.drop n else l)
    split
    · exact (h.take n).app (fun c hc => by
        rcases List.mem_cons.mp hc with e | e
        · rw [e]; exact hs
        · exact h.drop n c e)
    · exact h
  | turn n =>
    show Bts (if n < l.length then l.take n ++ flipB ((l[n]?).getD 0) :: l.drop (n + 1) else l)
    split
    · exact (h.take n).app (fun c hc => by
        rcases List.mem_cons.mp hc with e | e
        · rw [e]; exact flipB_bit _
        · exact h.drop _ c e)
    · exact h
  | lose n =>
    show Bts (if n < l.length then l.take n ++ l.drop (n + 1) else l)
    split
    · exact (h.take n).app (h.drop _)
    · exact h
end Fp

set_option Elab.async false
set_option linter.all false
set_option maxRecDepth 100000
set_option maxHeartbeats 4000000
/-! The laws' bags of four numbers; texts times an int. -/
namespace Fp
open PySem L2 PyProof.Rows
def Bag4 (H : Hp) (b : Addr) : Prop := ∃ g s p k : Int, H b = some (.lst [.int g, .int s, .int p, .int k]) ∧ 0 ≤ g ∧ 0 ≤ s ∧ s < 2147483648 ∧ 0 < p ∧ p < 2147483648
def Bx4 (b : Addr) (H H' : Hp) : Prop := Bag4 H' b ∧ ∀ a o, a ≠ b → H a = some o → H' a = some o
theorem Bx4.refl {b : Addr} {H : Hp} (h : Bag4 H b) : Bx4 b H H := ⟨h, fun _ _ _ e => e⟩
theorem Bx4.trans {b : Addr} {H H1 H2 : Hp} (x : Bx4 b H H1) (y : Bx4 b H1 H2) : Bx4 b H H2 := ⟨y.1, fun a o n e => y.2 a o n (x.2 a o n e)⟩
theorem Bx4.drawn {b : Addr} {H : Hp} {g s p k : Int} (g0 : 0 ≤ g) (s0 : 0 ≤ s) (s1 : s < 2147483648) (p0 : 0 < p) (p1 : p < 2147483648) : Bx4 b H (upd H b (.lst [.int g, .int s, .int p, .int k])) := ⟨⟨g, s, p, k, upd_same, g0, s0, s1, p0, p1⟩, fun a o n e => by
  rw [upd_ne n]
  exact e⟩
theorem Bx4.same {b : Addr} {H H1 H2 : Hp} (x : Bx4 b H H1) (y : Same H1 H2) : Bx4 b H H2 := by
  obtain ⟨⟨g, s, p, k, h, r⟩, m⟩ := x
  exact ⟨⟨g, s, p, k, y _ _ h, r⟩, fun a o n e => y _ _ (m a o n e)⟩
theorem Bx4.back {b : Addr} {H0 H H' : Hp} (x : Bx4 b H H') (y : Same H0 H) (n : H0 b = none) : Same H0 H' := fun a o e => x.2 a o (ne_of_none e n) (y a o e)
theorem Bx4.mut {b p : Addr} {H H' : Hp} {o : HO} (x : Bx4 b H H') (hp : H p = none) (n : p ≠ b) : Bx4 b H (upd H' p o) := by
  obtain ⟨⟨g, s, r, k, h, c⟩, m⟩ := x
  refine ⟨⟨g, s, r, k, by rw [upd_ne n.symm]; exact h, c⟩, fun a u z e => ?_⟩
  rw [upd_ne (ne_of_none e hp)]
  exact m a u z e
theorem Bag4.ne {H : Hp} {b p : Addr} (h : Bag4 H b) (n : H p = none) : p ≠ b := by
  obtain ⟨g, s, r, k, e, _⟩ := h
  exact (ne_of_none e n).symm
theorem Bx4.free {b p : Addr} {H H' : Hp} (x : Bx4 b H H') (h : H' p = none) : H p = none := by
  have n : p ≠ b := x.1.ne h
  cases q : H p with
  | none => rfl
  | some o =>
    rw [x.2 p o n q] at h
    cases h
theorem Bag4.tup {H : Hp} {b a : Addr} {xs : List V} (h : Bag4 H b) (e : H a = some (.tup xs)) : a ≠ b := fun z => by
  obtain ⟨g, s, r, k, e2, _⟩ := h
  rw [z, e2] at e
  cases e
theorem mul_list (l : List Nat) (n : Int) (h : 0 ≤ n) : Txt.mul (sOf l) n = sOf (List.replicate n.toNat l).flatten := by
  obtain ⟨k, rfl⟩ := Int.eq_ofNat_of_zero_le h
  apply of_list
  unfold Txt.mul
  have main : ∀ (k : Nat) (acc : Array Nat), (List.foldl (· ++ ·) acc (List.replicate k (sOf l).cps)).toList = acc.toList ++ (List.replicate k l).flatten := by
    intro k
    induction k with
    | zero => intro acc; simp
    | succ k ih =>
      intro acc
      rw [List.replicate_succ, List.foldl_cons, ih, List.replicate_succ, List.flatten_cons]
      simp [sOf]
  split
  · have : k = 0 := by omega
    subst this
    rfl
  · split
    · rename_i _ e
      rw [sOf_list, Int.toNat_natCast]
      simp only [Bool.or_eq_true, beq_iff_eq] at e
      rcases e with e | e
      · have : k = 1 := by omega
        subst this
        simp
      · rw [sOf_len] at e
        have : l = [] := List.length_eq_zero_iff.mp e
        subst this
        simp
    · rw [Int.toNat_natCast]
      have := main k #[]
      simpa using this
section
variable {X : Cx}
theorem op_mulT : OpR X (binaryOp .Mult) (fun x y H Q => ∃ (l : List Nat) (n : Int), x = .str (sOf l) ∧ y = .int n ∧ (0 ≤ n ∧ n ≤ 10000 ∧ l.length ≤ 1000) ∧ Q (.str (sOf (List.replicate n.toNat l).flatten)) H) := by
  intro pins s σ H x y v u Q I rx ry h
  obtain ⟨l, n, rfl, rfl, hz, q⟩ := h
  obtain ⟨t, rfl⟩ := rx
  obtain ⟨t', rfl⟩ := ry
  refine SB.mul (mulOk_of 1000 10000 (by rw [sOf_len]; exact hz.2.2) (by omega) (by omega) (by decide) (by decide)) fun t' k => ?_
  rw [mul_list l n hz.1]
  exact ⟨.str _, H, I.tok _, ⟨_, rfl⟩, q⟩
end
theorem flat_len {l : List Nat} (n : Nat) : (List.replicate n l).flatten.length = n * l.length := by
  induction n with
  | zero => simp
  | succ k ih => rw [List.replicate_succ, List.flatten_cons, List.length_append, ih, Nat.succ_mul]; omega
theorem flat_bts {l : List Nat} (h : Bts l) (n : Nat) : Bts (List.replicate n l).flatten := fun c hc => by
  obtain ⟨m, hm, hc⟩ := List.mem_flatten.mp hc
  rw [(List.mem_replicate.mp hm).2] at hc
  exact h c hc
theorem str_bit (k : Nat) (h : k < 2) : (toString ((k : Nat) : Int) : Str) = sOf [48 + k] := by
  have : k = 0 ∨ k = 1 := by omega
  rcases this with rfl | rfl <;> decide +kernel
/-- texts joined by nothing -/
theorem join_flat : ∀ ls : List (List Nat), Txt.join (Str.ofString "") (ls.map sOf) = sOf ls.flatten := by
  intro ls
  show Builtin.Str.glued (Str.ofString "") (ls.map sOf) = sOf ls.flatten
  rw [StrLaws.glued_eq_join]
  induction ls with
  | nil => rfl
  | cons c r ih =>
    cases r with
    | nil =>
      show sOf c = sOf [c].flatten
      simp
    | cons d r =>
      show sOf c ++ Str.ofString "" ++ Str.join (Str.ofString "") (List.map sOf (d :: r)) = sOf (c :: d :: r).flatten
      rw [ih, show (Str.ofString "") = sOf [] from rfl, sOf_app, sOf_app, List.append_nil]
      rfl
theorem lens_sum (ls : List (List Nat)) : ((ls.map sOf).map (·.length)).sum = ls.flatten.length := by
  induction ls with
  | nil => rfl
  | cons c r ih =>
    rw [List.map_cons, List.map_cons, List.sum_cons, ih, sOf_len, List.flatten_cons, List.length_append]
theorem join_flat_size {ls : List (List Nat)} (h : ls.flatten.length ≤ 100000) : ((ls.map sOf).map (·.length)).sum + (ls.map sOf).length * (Str.ofString "").length ≤ 16777216 := by
  rw [lens_sum, show (Str.ofString "").length = 0 from rfl]
  omega
theorem sV_strs (ls : List (List Nat)) : ls.map sV = (ls.map sOf).map V.str := by
  rw [List.map_map]
  rfl
theorem flatten_snoc {ls : List (List Nat)} {l : List Nat} : (ls ++ [l]).flatten = ls.flatten ++ l := by simp
end Fp

set_option Elab.async false
set_option linter.all false
set_option maxRecDepth 100000
set_option maxHeartbeats 4000000
/-! Marks: where they stand, and how they are found. -/
namespace Fp
open PySem L2 PyProof.Rows
--PURE
def mkL : List Nat := [48, 48, 48, 48, 48, 48, 48, 48, 48, 48, 48, 49]
/-- a mark begins at p -/
def occ (l : List Nat) (p : Nat) : Bool := (l.drop p).take 12 == mkL
theorem occ_get {l : List Nat} {p : Nat} (h : occ l p = true) : p + 12 ≤ l.length ∧ (∀ i, i < 11 → l[p + i]? = some 48) ∧ l[p + 11]? = some 49 := by
  have e : (l.drop p).take 12 = mkL := eq_of_beq h
  have ln := congrArg List.length e
  rw [List.length_take, List.length_drop] at ln
  have ln : min 12 (l.length - p) = 12 := ln
  have at_ : ∀ i, i < 12 → l[p + i]? = mkL[i]? := fun i hi => by
    rw [← e, List.getElem?_take_of_lt hi, List.getElem?_drop]
  refine ⟨by omega, fun i hi => ?_, by rw [at_ 11 (by decide)]; rfl⟩
  rw [at_ i (by omega)]
  have : ∀ i : Nat, i < 11 → mkL[i]? = some 48 := by decide
  exact this i hi
theorem occ_of {l : List Nat} {p : Nat} (h0 : ∀ i, i < 11 → l[p + i]? = some 48) (h1 : l[p + 11]? = some 49) : occ l p = true := by
  refine beq_iff_eq.mpr ?_
  apply List.ext_getElem?
  intro i
  by_cases hi : i < 12
  · rw [List.getElem?_take_of_lt hi, List.getElem?_drop]
    by_cases z : i < 11
    · rw [h0 i z]
      have : ∀ i : Nat, i < 11 → mkL[i]? = some 48 := by decide
      rw [this i z]
    · have : i = 11 := by omega
      rw [this, h1]
      rfl
  · rw [List.getElem?_eq_none (by rw [List.length_take]; omega), List.getElem?_eq_none (by show 12 ≤ i; omega)]
/-- two marks don't share a sign -/
theorem occ_apart {l : List Nat} {p q : Nat} (h : occ l p = true) (h2 : occ l q = true) (lt : p < q) : p + 12 ≤ q := by
  by_cases z : p + 12 ≤ q
  · exact z
  · obtain ⟨_, _, a⟩ := occ_get h
    obtain ⟨_, b, _⟩ := occ_get h2
    have := b (p + 11 - q) (by omega)
    rw [show q + (p + 11 - q) = p + 11 by omega, a] at this
    cases this
def occs (l : List Nat) (s : Nat) : List Nat := (List.range s).filter (occ l)
theorem occs_none {l : List Nat} {s t : Nat} (h : s ≤ t) (hn : ∀ v, s ≤ v → v < t → occ l v = false) : occs l t = occs l s := by
  obtain ⟨k, rfl⟩ : ∃ k, t = s + k := ⟨t - s, by omega⟩
  induction k with
  | zero => rfl
  | succ k ih =>
    have h1 := ih (by omega) (fun v a b => hn v a (by omega))
    unfold occs at h1 ⊢
    rw [← Nat.add_assoc, List.range_succ, List.filter_append, h1]
    have : occ l (s + k) = false := hn _ (by omega) (by omega)
    simp [this]
theorem occs_one {l : List Nat} {s k : Nat} (h : s ≤ k) (hk : occ l k = true) (hn : ∀ v, s ≤ v → v < k → occ l v = false) : occs l (k + 12) = occs l s ++ [k] := by
  have h1 : occs l (k + 1) = occs l s ++ [k] := by
    have := occs_none h hn
    unfold occs at this ⊢
    rw [List.range_succ, List.filter_append, this]
    simp [hk]
  rw [← h1]
  refine occs_none (by omega) fun v a b => ?_
  cases z : occ l v with
  | false => rfl
  | true => exact absurd (occ_apart hk z (by omega)) (by omega)
theorem occs_end {l : List Nat} {s : Nat} (hn : ∀ v, s ≤ v → occ l v = false) (t : Nat) (h : s ≤ t) : occs l t = occs l s := occs_none h fun v a _ => hn v a
theorem occ_far {l : List Nat} {v : Nat} (h : l.length < v + 12) : occ l v = false := by
  cases z : occ l v with
  | false => rfl
  | true => exact absurd (occ_get z).1 (by omega)
/-- the ends of all marks -/
def endsL (l : List Nat) : List Nat := (occs l l.length).map (· + 12)
theorem occs_len (l : List Nat) (s : Nat) : (occs l s).length ≤ s := by
  unfold occs
  have := List.length_filter_le (occ l) (List.range s)
  rw [List.length_range] at this
  exact this
theorem occ_iff {l : List Nat} {i : Nat} : occ l i = true ↔ (l[i + 11]? = some 49 ∧ (l.drop i).take 11 = List.replicate 11 48) := by
  constructor
  · intro h
    obtain ⟨a, b, c⟩ := occ_get h
    refine ⟨c, ?_⟩
    apply List.ext_getElem?
    intro j
    by_cases hj : j < 11
    · rw [List.getElem?_take_of_lt hj, List.getElem?_drop, b j hj, List.getElem?_replicate, if_pos hj]
    · rw [List.getElem?_eq_none (by rw [List.length_take]; omega), List.getElem?_eq_none (by rw [List.length_replicate]; omega)]
  · rintro ⟨h1, h2⟩
    refine occ_of (fun j hj => ?_) h1
    have : ((l.drop i).take 11)[j]? = some 48 := by rw [h2, List.getElem?_replicate, if_pos hj]
    rw [List.getElem?_take_of_lt hj, List.getElem?_drop] at this
    exact this
--END
theorem cutS_mid (l : List Nat) (a b : Nat) (h : a ≤ b) : cutS (sOf l) (some (a : Int)) (some (b : Int)) = sOf ((l.drop a).take (b - a)) := by
  unfold cutS
  rw [HT.sIx_nat, HT.sIx_nat, sOf_len, sOf_list]
  show sOf _ = sOf _
  congr 1
  by_cases h1 : a ≤ l.length
  · rw [Nat.min_eq_left h1]
    by_cases h2 : b ≤ l.length
    · rw [Nat.min_eq_left h2]
    · have q : (l.drop a).length = l.length - a := List.length_drop ..
      rw [Nat.min_eq_right (by omega), List.take_of_length_le (by omega), List.take_of_length_le (by omega)]
  · rw [Nat.min_eq_right (by omega), Nat.min_eq_right (by omega), List.drop_eq_nil_of_le (by omega), List.drop_eq_nil_of_le (by omega), List.take_nil, List.take_nil]
theorem at_occ {l : List Nat} {i : Nat} : StrLaws.At (sOf l) (sOf mkL) (sOf l).length i ↔ occ l i = true := by
  unfold StrLaws.At
  rw [StrLaws.subAt_eq, sOf_list, sOf_list, sOf_len, sOf_len]
  constructor
  · exact fun h => h.2
  · exact fun h => ⟨(occ_get h).1, h⟩
theorem find_occ (l : List Nat) (s : Nat) : (Txt.find3 (sOf l) (sOf mkL) (s : Int) < 0 ∧ ∀ v, s ≤ v → occ l v = false) ∨ ∃ k : Nat, Txt.find3 (sOf l) (sOf mkL) (s : Int) = (k : Int) ∧ s ≤ k ∧ occ l k = true ∧ ∀ v, s ≤ v → v < k → occ l v = false := by
  have e : PySem.fromIndex (sOf l).length (s : Int) = s := by
    unfold PySem.fromIndex
    rw [if_neg (by omega)]
    omega
  have nb : ∀ {v}, ¬ StrLaws.At (sOf l) (sOf mkL) (sOf l).length v → occ l v = false := fun {v} h => by
    cases z : occ l v with
    | false => rfl
    | true => exact absurd (at_occ.mpr z) h
  unfold Txt.find3
  rw [e]
  rcases StrLaws.occ_head_from (sOf l) (sOf mkL) s 1 (Nat.le_refl _) with ⟨h0, hn⟩ | ⟨k, r, h0, hlo, hk, hn⟩
  · rw [h0]
    exact .inl ⟨by show (-1 : Int) < 0; decide, fun v hv => nb (hn v hv)⟩
  · rw [h0]
    exact .inr ⟨k, rfl, hlo, at_occ.mp hk, fun v a b => nb (hn v a b)⟩
end Fp

set_option Elab.async false
set_option linter.all false
set_option maxRecDepth 100000
set_option maxHeartbeats 4000000
/-! Stretches between marks. -/
namespace Fp
open PySem L2 PyProof.Rows
--PURE
def emp (st : List Nat) : Bool := decide (st = 49 :: (List.replicate (st.length - 2) 48 ++ [49]))
theorem st_split {st : List Nat} (h2 : 2 ≤ st.length) (hl : st[st.length - 1]? = some 49) : ∃ x mid, st = x :: (mid ++ [49]) := by
  cases st with
  | nil => exact absurd h2 (by decide)
  | cons x r =>
    have hr : r ≠ [] := fun e => by
      rw [e] at h2
      exact absurd h2 (by show ¬ 2 ≤ 1; decide)
    refine ⟨x, r.dropLast, ?_⟩
    congr 1
    have e := (List.dropLast_concat_getLast hr).symm
    have e2 : r.getLast hr = 49 := by
      rw [List.length_cons, Nat.add_sub_cancel] at hl
      rw [List.getLast_eq_getElem]
      have hr2 : 0 < r.length := List.length_pos_iff.mpr hr
      obtain ⟨k, hk⟩ : ∃ k, r.length = k + 1 := ⟨r.length - 1, by omega⟩
      rw [hk, List.getElem?_cons_succ] at hl
      have hlt : r.length - 1 < r.length := by omega
      have : r[r.length - 1]? = some 49 := by rw [show r.length - 1 = k by omega]; exact hl
      rw [List.getElem?_eq_getElem hlt] at this
      exact Option.some.inj this
    rw [e2] at e
    exact e
theorem emp_iff {st : List Nat} (hb : ∀ c ∈ st, c = 48 ∨ c = 49) (h2 : 2 ≤ st.length) (hl : st[st.length - 1]? = some 49) : emp st = true ↔ (st[0]? = some 49 ∧ 49 ∉ (st.drop 1).take (st.length - 2)) := by
  obtain ⟨x, mid, rfl⟩ := st_split h2 hl
  have ln : (x :: (mid ++ [49])).length - 2 = mid.length := by
    rw [List.length_cons, List.length_append]
    rfl
  have md : ((x :: (mid ++ [49])).drop 1).take ((x :: (mid ++ [49])).length - 2) = mid := by
    rw [ln]
    show (mid ++ [49]).take mid.length = mid
    rw [List.take_append_of_le_length (Nat.le_refl _), List.take_length]
  rw [md]
  unfold emp
  rw [ln, decide_eq_true_iff]
  constructor
  · intro e
    have e1 := List.cons.inj e
    refine ⟨by rw [e1.1]; rfl, fun hm => ?_⟩
    have e3 : mid = List.replicate mid.length 48 := List.append_cancel_right e1.2
    rw [e3] at hm
    have := (List.mem_replicate.mp hm).2
    cases this
  · rintro ⟨e1, e2⟩
    have hx : x = 49 := Option.some.inj e1
    subst hx
    congr 2
    refine List.eq_replicate_iff.mpr ⟨rfl, fun c hc => ?_⟩
    rcases hb c (List.mem_cons_of_mem _ (List.mem_append_left _ hc)) with z | z
    · exact z
    · exact absurd (z ▸ hc) e2
/-- two ends, one behind the other -/
def sttL (l : List Nat) : List (List Nat) := (List.range ((endsL l).length - 1)).map fun i => (l.drop ((endsL l).getD i 0)).take ((endsL l).getD (i + 1) 0 - (endsL l).getD i 0)
def E2 (F : List (List Nat)) (a : Nat) : Prop := emp (F.getD (a - 1) []) = true ∧ emp (F.getD a []) = true
def StrR (F F' : List (List Nat)) (b : Bool) : Prop := (b = true ∧ ∃ a, 1 ≤ a ∧ a < F.length ∧ E2 F a ∧ (∀ a', 1 ≤ a' → a' < a → ¬ E2 F a') ∧ F' = F.take (a - 1)) ∨ (b = false ∧ (∀ a, 1 ≤ a → a < F.length → ¬ E2 F a) ∧ F' = F)
theorem StrR.uniq {F F1 F2 : List (List Nat)} {b1 b2 : Bool} (h1 : StrR F F1 b1) (h2 : StrR F F2 b2) : F1 = F2 ∧ b1 = b2 := by
  rcases h1 with ⟨rfl, a, a1, a2, a3, a4, rfl⟩ | ⟨rfl, n1, rfl⟩
  · rcases h2 with ⟨rfl, c, c1, c2, c3, c4, rfl⟩ | ⟨rfl, n2, rfl⟩
    · have : a = c := by
        by_cases x : a < c
        · exact absurd a3 (c4 a a1 x)
        · by_cases y : c < a
          · exact absurd c3 (a4 c c1 y)
          · omega
      subst this
      exact ⟨rfl, rfl⟩
    · exact absurd a3 (n2 a a1 a2)
  · rcases h2 with ⟨rfl, c, c1, c2, c3, c4, rfl⟩ | ⟨rfl, n2, rfl⟩
    · exact absurd c3 (n1 c c1 c2)
    · exact ⟨rfl, rfl⟩
theorem occs_sorted (l : List Nat) (s : Nat) : (occs l s).Pairwise (· < ·) := by
  unfold occs
  exact List.Pairwise.filter _ List.pairwise_lt_range
theorem ends_at {l : List Nat} {i : Nat} (h : i < (endsL l).length) : ∃ p, (occs l l.length)[i]? = some p ∧ (endsL l).getD i 0 = p + 12 ∧ occ l p = true ∧ p + 12 ≤ l.length := by
  have hi : i < (occs l l.length).length := by
    unfold endsL at h
    rw [List.length_map] at h
    exact h
  have hm := List.getElem_mem hi
  have hocc : occ l (occs l l.length)[i] = true := by
    unfold occs at hm
    exact (List.mem_filter.mp hm).2
  refine ⟨(occs l l.length)[i], List.getElem?_eq_getElem hi, ?_, hocc, (occ_get hocc).1⟩
  unfold endsL
  rw [List.getD_eq_getElem?_getD, List.getElem?_map, List.getElem?_eq_getElem hi]
  rfl
/-- a stretch is long enough, and ends with a mark -/
theorem str_at {l : List Nat} {i : Nat} (h : i + 1 < (endsL l).length) : (endsL l).getD i 0 + 12 ≤ (endsL l).getD (i + 1) 0 ∧ (endsL l).getD (i + 1) 0 ≤ l.length ∧ ((sttL l).getD i []).length = (endsL l).getD (i + 1) 0 - (endsL l).getD i 0 ∧ ((sttL l).getD i [])[((sttL l).getD i []).length - 1]? = some 49 ∧ (sttL l)[i]? = some ((l.drop ((endsL l).getD i 0)).take ((endsL l).getD (i + 1) 0 - (endsL l).getD i 0)) := by
  obtain ⟨p, hp, ep, op, lp⟩ := ends_at (show i < (endsL l).length by omega)
  obtain ⟨r, hr, er, or_, lr⟩ := ends_at h
  have lt : p < r := by
    have := List.pairwise_iff_getElem.mp (occs_sorted l l.length) i (i + 1) (List.getElem?_eq_some_iff.mp hp).1 (List.getElem?_eq_some_iff.mp hr).1 (by omega)
    rw [List.getElem?_eq_getElem (List.getElem?_eq_some_iff.mp hp).1] at hp
    rw [List.getElem?_eq_getElem (List.getElem?_eq_some_iff.mp hr).1] at hr
    rw [← Option.some.inj hp, ← Option.some.inj hr]
    exact this
  have ap := occ_apart op or_ lt
  have e5 : (sttL l)[i]? = some ((l.drop ((endsL l).getD i 0)).take ((endsL l).getD (i + 1) 0 - (endsL l).getD i 0)) := by
    unfold sttL
    rw [List.getElem?_map, List.getElem?_range (by omega)]
    rfl
  have e6 : (sttL l).getD i [] = (l.drop ((endsL l).getD i 0)).take ((endsL l).getD (i + 1) 0 - (endsL l).getD i 0) := by
    rw [List.getD_eq_getElem?_getD, e5]
    rfl
  have e7 : ((sttL l).getD i []).length = (endsL l).getD (i + 1) 0 - (endsL l).getD i 0 := by
    rw [e6, List.length_take, List.length_drop]
    omega
  refine ⟨by omega, by omega, e7, ?_, e5⟩
  rw [e7, e6, List.getElem?_take_of_lt (by omega), List.getElem?_drop, ep, er]
  have := (occ_get or_).2.2
  rw [show p + 12 + (r + 12 - (p + 12) - 1) = r + 11 by omega]
  exact this
theorem sttL_len (l : List Nat) : (sttL l).length = (endsL l).length - 1 := by
  unfold sttL
  rw [List.length_map, List.length_range]
--END
theorem cutS_mid1 {l : List Nat} (h : 2 ≤ l.length) : cutS (sOf l) (some 1) (some (-1)) = sOf ((l.drop 1).take (l.length - 2)) := by
  unfold cutS
  rw [show HT.sIx (sOf l).length 0 (some 1) = min 1 (sOf l).length from HT.sIx_nat _ _ 1, sOf_len, sOf_list, Nat.min_eq_left (by omega)]
  show sOf ((l.drop 1).take ((-1 + (l.length : Int)).toNat - 1)) = _
  rw [show (-1 + (l.length : Int)).toNat - 1 = l.length - 2 by omega]
end Fp

set_option Elab.async false
set_option linter.all false
set_option maxRecDepth 100000
set_option maxHeartbeats 4000000
/-! Noughts that stand together. -/
namespace Fp
open PySem L2 PyProof.Rows
--PURE
def tz (t c : Nat) : Nat := if c = 48 then t + 1 else 0
def trail (t : Nat) (l : List Nat) : Nat := l.foldl tz t
/-- the most noughts together, with t of them ahead -/
def mxZ : Nat → List Nat → Nat
  | t, [] => t
  | t, c :: r => max t (mxZ (tz t c) r)
/-- ones with eleven noughts ahead -/
def cntM : Nat → List Nat → Nat
  | _, [] => 0
  | t, c :: r => (if c = 49 ∧ 11 ≤ t then 1 else 0) + cntM (tz t c) r
theorem tz_mono {t u : Nat} (h : t ≤ u) (c : Nat) : tz t c ≤ tz u c := by
  unfold tz
  split <;> omega
theorem trail_mono {t u : Nat} (l : List Nat) (h : t ≤ u) : trail t l ≤ trail u l := by
  induction l generalizing t u with
  | nil => exact h
  | cons c r ih => exact ih (tz_mono h c)
theorem mxZ_mono {t u : Nat} (l : List Nat) (h : t ≤ u) : mxZ t l ≤ mxZ u l := by
  induction l generalizing t u with
  | nil => exact h
  | cons c r ih =>
    have := ih (tz_mono h c)
    show max t (mxZ (tz t c) r) ≤ max u (mxZ (tz u c) r)
    omega
theorem trail_app (t : Nat) (a b : List Nat) : trail t (a ++ b) = trail (trail t a) b := by
  unfold trail
  rw [List.foldl_append]
theorem mxZ_app (t : Nat) (a b : List Nat) : mxZ t (a ++ b) = max (mxZ t a) (mxZ (trail t a) b) := by
  induction a generalizing t with
  | nil =>
    show mxZ t b = max t (mxZ t b)
    have : t ≤ mxZ t b := by
      cases b with
      | nil => exact Nat.le_refl _
      | cons c r => exact Nat.le_max_left _ _
    omega
  | cons c r ih =>
    show max t (mxZ (tz t c) (r ++ b)) = max (max t (mxZ (tz t c) r)) (mxZ (trail (tz t c) r) b)
    rw [ih]
    omega
theorem cntM_app (t : Nat) (a b : List Nat) : cntM t (a ++ b) = cntM t a + cntM (trail t a) b := by
  induction a generalizing t with
  | nil =>
    show cntM t b = 0 + cntM t b
    omega
  | cons c r ih =>
    show (if c = 49 ∧ 11 ≤ t then 1 else 0) + cntM (tz t c) (r ++ b) = (if c = 49 ∧ 11 ≤ t then 1 else 0) + cntM (tz t c) r + cntM (trail (tz t c) r) b
    rw [ih]
    omega
theorem cntM_none {t : Nat} {l : List Nat} (h : mxZ t l ≤ 10) : cntM t l = 0 := by
  induction l generalizing t with
  | nil => rfl
  | cons c r ih =>
    have h : max t (mxZ (tz t c) r) ≤ 10 := h
    show (if c = 49 ∧ 11 ≤ t then 1 else 0) + cntM (tz t c) r = 0
    rw [if_neg (fun z => by have := z.2; omega), ih (by omega)]
theorem trail_rep (t n : Nat) : trail t (List.replicate n 48) = t + n := by
  induction n generalizing t with
  | zero => rfl
  | succ n ih =>
    show trail (t + 1) (List.replicate n 48) = _
    rw [ih]
    omega
theorem cntM_rep (t n : Nat) : cntM t (List.replicate n 48) = 0 := by
  induction n generalizing t with
  | zero => rfl
  | succ n ih =>
    show (if 48 = 49 ∧ 11 ≤ t then 1 else 0) + cntM (t + 1) (List.replicate n 48) = 0
    rw [if_neg (fun z => absurd z.1 (by decide)), ih]
theorem trail_le_mxZ (t : Nat) (l : List Nat) : trail t l ≤ mxZ t l := by
  induction l generalizing t with
  | nil => exact Nat.le_refl _
  | cons c r ih => exact Nat.le_trans (ih (tz t c)) (Nat.le_max_right _ _)
/-- where ten noughts stand together -/
theorem ten_mxZ {t n i : Nat} {l : List Nat} (h : (l.drop i).take n = List.replicate n 48) : n ≤ mxZ t l := by
  have e : l = l.take i ++ (List.replicate n 48 ++ (l.drop i).drop n) := by
    rw [← h, List.take_append_drop, List.take_append_drop]
  rw [e, mxZ_app, mxZ_app]
  have h1 := trail_le_mxZ (trail t (l.take i)) (List.replicate n 48)
  rw [trail_rep] at h1
  omega
/-- parts that lead from few noughts to few -/
def Few (w : List Nat) : Prop := trail 4 w ≤ 4 ∧ mxZ 4 w ≤ 9
theorem Few.from {w : List Nat} (h : Few w) {t : Nat} (ht : t ≤ 4) : trail t w ≤ 4 ∧ mxZ t w ≤ 9 := ⟨Nat.le_trans (trail_mono w ht) h.1, Nat.le_trans (mxZ_mono w ht) h.2⟩
theorem Few.nil : Few [] := ⟨Nat.le_refl _, by decide⟩
theorem Few.app {a b : List Nat} (ha : Few a) (hb : Few b) : Few (a ++ b) := by
  have h := hb.from ha.1
  refine ⟨by rw [trail_app]; exact h.1, ?_⟩
  rw [mxZ_app]
  have := ha.2
  have := h.2
  omega
theorem Few.flat : ∀ {ws : List (List Nat)}, (∀ w ∈ ws, Few w) → Few ws.flatten
  | [], _ => Few.nil
  | w :: r, h => (h w (List.mem_cons_self ..)).app (Few.flat fun x hx => h x (List.mem_cons_of_mem _ hx))
instance (w : List Nat) : Decidable (Few w) := by
  unfold Few
  exact inferInstance
/-- a mark, a tag, a telling, noughts -/
def mk12 : List Nat := [48, 48, 48, 48, 48, 48, 48, 48, 48, 48, 48, 49]
theorem cnt_mark (t : Nat) : cntM t mk12 = 1 ∧ trail t mk12 = 0 := by
  have e : mk12 = List.replicate 11 48 ++ [49] := rfl
  rw [e, cntM_app, trail_app, cntM_rep, trail_rep]
  refine ⟨?_, rfl⟩
  show 0 + ((if 49 = 49 ∧ 11 ≤ t + 11 then 1 else 0) + 0) = 1
  rw [if_pos ⟨rfl, by omega⟩]
theorem cnt_row {t c n : Nat} {w : List Nat} (hw : Few w) : cntM t (mk12 ++ (c :: w) ++ List.replicate n 48) = 1 := by
  rw [cntM_app, cntM_app, (cnt_mark t).1, (cnt_mark t).2, cntM_rep]
  have : cntM 0 (c :: w) = 0 := by
    refine cntM_none ?_
    show max 0 (mxZ (tz 0 c) w) ≤ 10
    have h1 : tz 0 c ≤ 4 := by
      unfold tz
      split <;> omega
    have := (hw.from h1).2
    omega
  rw [this]
theorem cnt_flat : ∀ {ws : List (List Nat)} (t : Nat), (∀ w ∈ ws, ∀ t, cntM t w = 1) → cntM t ws.flatten = ws.length
  | [], _, _ => rfl
  | w :: r, t, h => by
    rw [List.flatten_cons, cntM_app, h w (List.mem_cons_self ..) t, cnt_flat (ws := r) _ fun x hx => h x (List.mem_cons_of_mem _ hx), List.length_cons]
    omega
theorem cnt_end (t : Nat) : cntM t (mk12 ++ [49]) = 1 := by
  rw [cntM_app, (cnt_mark t).1, (cnt_mark t).2]
  rfl
--END
end Fp

set_option Elab.async false
set_option linter.all false
set_option maxRecDepth 100000
set_option maxHeartbeats 4000000
/-! Bits cut at the marks' ends, rows filled up. -/
namespace Fp
open PySem L2 PyProof.Rows
--PURE
/-- bits cut behind each 1 with eleven noughts ahead: the noughts ahead, what is begun -/
def cutL : Nat → List Nat → List Nat → List (List Nat)
  | _, cur, [] => [cur]
  | t, cur, c :: r => if c = 49 ∧ 11 ≤ t then (cur ++ [c]) :: cutL 0 [] r else cutL (tz t c) (cur ++ [c]) r
theorem cutL_few : ∀ (w : List Nat) (t : Nat) (cur r : List Nat), mxZ t w ≤ 10 → cutL t cur (w ++ r) = cutL (trail t w) (cur ++ w) r
  | [], t, cur, r, _ => by
    show cutL t cur r = cutL t (cur ++ []) r
    rw [List.append_nil]
  | c :: w, t, cur, r, h => by
    have h : max t (mxZ (tz t c) w) ≤ 10 := h
    show (if c = 49 ∧ 11 ≤ t then (cur ++ [c]) :: cutL 0 [] (w ++ r) else cutL (tz t c) (cur ++ [c]) (w ++ r)) = _
    rw [if_neg (fun z => by have := z.2; omega), cutL_few w (tz t c) (cur ++ [c]) r (by omega), List.append_assoc]
    rfl
theorem cutL_rep : ∀ (n t : Nat) (cur r : List Nat), cutL t cur (List.replicate n 48 ++ r) = cutL (t + n) (cur ++ List.replicate n 48) r
  | 0, t, cur, r => by
    show cutL t cur r = cutL t (cur ++ []) r
    rw [List.append_nil]
  | n + 1, t, cur, r => by
    show (if 48 = 49 ∧ 11 ≤ t then (cur ++ [48]) :: cutL 0 [] (List.replicate n 48 ++ r) else cutL (t + 1) (cur ++ [48]) (List.replicate n 48 ++ r)) = _
    rw [if_neg (fun z => absurd z.1 (by decide)), cutL_rep n (t + 1) (cur ++ [48]) r, List.append_assoc, show t + 1 + n = t + (n + 1) by omega]
    rfl
theorem cutL_mark (t : Nat) (cur r : List Nat) : cutL t cur (mk12 ++ r) = (cur ++ mk12) :: cutL 0 [] r := by
  have e : mk12 ++ r = List.replicate 11 48 ++ 49 :: r := rfl
  rw [e, cutL_rep]
  show (if 49 = 49 ∧ 11 ≤ t + 11 then (cur ++ List.replicate 11 48 ++ [49]) :: cutL 0 [] r else _) = _
  rw [if_pos ⟨rfl, by omega⟩, List.append_assoc]
  rfl
/-- parts, each behind a mark -/
def cuts : List Nat → List (List Nat) → List (List Nat)
  | cur, [] => [cur]
  | cur, w :: r => (cur ++ mk12) :: cuts w r
theorem cuts_len : ∀ (ws : List (List Nat)) (cur : List Nat), (cuts cur ws).length = ws.length + 1
  | [], _ => rfl
  | w :: r, cur => by
    show (cuts w r).length + 1 = _
    rw [cuts_len r w]
    rfl
theorem cutL_cuts : ∀ (ws : List (List Nat)) (t : Nat) (cur : List Nat), (∀ w ∈ ws, mxZ 0 w ≤ 10) → cutL t cur (ws.map (mk12 ++ ·)).flatten = cuts cur ws
  | [], _, _, _ => rfl
  | w :: r, t, cur, h => by
    rw [List.map_cons, List.flatten_cons, List.append_assoc, cutL_mark, cutL_few w 0 [] _ (h w (List.mem_cons_self ..)), cutL_cuts r _ _ (fun x hx => h x (List.mem_cons_of_mem _ hx))]
    rfl
/-- one part filled up -/
def fillP (many least k : Nat) (p : List Nat) : List Nat := if k ≤ many then p.take (p.length - 12) ++ List.replicate (least - p.length) 48 ++ p.drop (p.length - 12) else p
def fillF (many least : Nat) : Nat → List (List Nat) → List Nat
  | _, [] => []
  | k, p :: r => fillP many least k p ++ fillF many least (k + 1) r
theorem fillF_past {many least : Nat} : ∀ (ps : List (List Nat)) (k : Nat), many < k → fillF many least k ps = ps.flatten
  | [], _, _ => rfl
  | p :: r, k, h => by
    show fillP many least k p ++ fillF many least (k + 1) r = _
    rw [fillF_past r (k + 1) (by omega), List.flatten_cons]
    unfold fillP
    rw [if_neg (by omega)]
def pad12 (least : Nat) (w : List Nat) : List Nat := w ++ List.replicate (least - (12 + w.length)) 48
theorem fillP_mark {many least k : Nat} {w : List Nat} (h : k ≤ many) : fillP many least k (w ++ mk12) = pad12 least w ++ mk12 := by
  unfold fillP pad12
  have l : (w ++ mk12).length = w.length + 12 := by
    rw [List.length_append]
    rfl
  rw [if_pos h, l, Nat.add_sub_cancel, List.take_left, List.drop_left, Nat.add_comm w.length 12]
theorem fillF_cuts {many least : Nat} : ∀ (W : List (List Nat)) (w : List Nat) (k : Nat), k + W.length = many → fillF many least k (cuts w (W ++ List.replicate 6 [49])) = pad12 least w ++ (W.map fun x => mk12 ++ pad12 least x).flatten ++ (List.replicate 6 (mk12 ++ [49])).flatten
  | [], w, k, h => by
    show fillP many least k (w ++ mk12) ++ fillF many least (k + 1) (cuts [49] (List.replicate 5 [49])) = _
    have h : k + 0 = many := h
    rw [fillP_mark (by omega), fillF_past _ _ (by omega), List.append_assoc]
    show _ = pad12 least w ++ [] ++ _
    rw [List.append_nil]
    rfl
  | x :: W, w, k, h => by
    show fillP many least k (w ++ mk12) ++ fillF many least (k + 1) (cuts x (W ++ List.replicate 6 [49])) = _
    rw [List.length_cons] at h
    rw [fillP_mark (by omega), fillF_cuts W x (k + 1) (by omega), List.map_cons, List.flatten_cons]
    simp only [List.append_assoc]
/-- the law's filling up, by the parts -/
theorem fill_all {least : Nat} {W : List (List Nat)} (h : W ≠ []) : mk12 ++ fillF W.length least 1 ((cuts [] (W ++ List.replicate 6 [49])).drop 1) = (W.map fun x => mk12 ++ pad12 least x).flatten ++ (List.replicate 6 (mk12 ++ [49])).flatten := by
  cases W with
  | nil => exact absurd rfl h
  | cons w W =>
    show mk12 ++ fillF _ least 1 (cuts w (W ++ List.replicate 6 [49])) = _
    rw [fillF_cuts W w 1 (by rw [List.length_cons]; omega), List.map_cons, List.flatten_cons]
    simp only [List.append_assoc]
theorem fillF_app {many least : Nat} : ∀ (a b : List (List Nat)) (k : Nat), fillF many least k (a ++ b) = fillF many least k a ++ fillF many least (k + a.length) b
  | [], b, k => rfl
  | p :: r, b, k => by
    show fillP many least k p ++ fillF many least (k + 1) (r ++ b) = fillP many least k p ++ fillF many least (k + 1) r ++ _
    rw [fillF_app r b (k + 1), List.append_assoc, List.length_cons, show k + 1 + r.length = k + (r.length + 1) by omega]
/-- the walk of the cut: bits, where the part begins, the noughts ahead -/
theorem cutL_step {l : List Nat} {i b t c : Nat} (hb : b ≤ i) (hc : l[i]? = some c) : cutL t ((l.drop b).take (i - b)) (l.drop i) = if c = 49 ∧ 11 ≤ t then ((l.drop b).take (i + 1 - b)) :: cutL 0 ((l.drop (i + 1)).take (i + 1 - (i + 1))) (l.drop (i + 1)) else cutL (tz t c) ((l.drop b).take (i + 1 - b)) (l.drop (i + 1)) := by
  obtain ⟨hi, he⟩ := List.getElem?_eq_some_iff.mp hc
  have e1 : l.drop i = c :: l.drop (i + 1) := by rw [List.drop_eq_getElem_cons hi, he]
  have e2 : (l.drop b).take (i - b) ++ [c] = (l.drop b).take (i + 1 - b) := by
    have : (l.drop b)[i - b]? = some c := by rw [List.getElem?_drop, show b + (i - b) = i by omega, hc]
    rw [show i + 1 - b = i - b + 1 by omega, List.take_add_one, this]
    rfl
  rw [e1]
  show (if c = 49 ∧ 11 ≤ t then ((l.drop b).take (i - b) ++ [c]) :: cutL 0 [] (l.drop (i + 1)) else cutL (tz t c) ((l.drop b).take (i - b) ++ [c]) (l.drop (i + 1))) = _
  rw [e2, Nat.sub_self, List.take_zero]
theorem cutL_sum : ∀ (l : List Nat) (t : Nat) (cur : List Nat), (cutL t cur l).flatten = cur ++ l
  | [], t, cur => by
    show [cur].flatten = cur ++ []
    simp
  | c :: r, t, cur => by
    show (if c = 49 ∧ 11 ≤ t then (cur ++ [c]) :: cutL 0 [] r else cutL (tz t c) (cur ++ [c]) r).flatten = _
    split
    · rw [List.flatten_cons, cutL_sum r 0 []]
      simp
    · rw [cutL_sum r _ _]
      simp
theorem mem_flat_len {p : List Nat} : ∀ {ps : List (List Nat)}, p ∈ ps → p.length ≤ ps.flatten.length
  | q :: ps, h => by
    rw [List.flatten_cons, List.length_append]
    rcases List.mem_cons.mp h with e | e
    · rw [e]
      omega
    · have := mem_flat_len e
      omega
--END
end Fp

set_option Elab.async false
set_option linter.all false
set_option maxRecDepth 100000
set_option maxHeartbeats 4000000
/-! Plain tellings read: the run whose bits stand at a place, the row that is read. -/
namespace Fp
open PySem L2 PyProof.Rows
/-- twenty words of which none begins another one -/
structure PF (W : List (List Nat)) : Prop where
  free : ∀ i, i < 20 → ∀ j, j < 20 → i ≠ j → ¬ W.getD i [] <+: W.getD j []
  pos : ∀ i, i < 20 → 0 < (W.getD i []).length
theorem pref_same {W : List (List Nat)} (h : PF W) {i j : Nat} (hi : i < 20) (hj : j < 20) {M : List Nat} (h1 : W.getD i [] <+: M) (h2 : W.getD j [] <+: M) : i = j := by
  by_cases e : i = j
  · exact e
  · exfalso
    rcases Nat.le_total (W.getD i []).length (W.getD j []).length with z | z
    · exact h.free i hi j hj e (List.prefix_of_prefix_length_le h1 h2 z)
    · exact h.free j hj i hi (fun y => e y.symm) (List.prefix_of_prefix_length_le h2 h1 z)
theorem pref_tail {A B M : List Nat} : A ++ B <+: M ↔ A <+: M ∧ B <+: M.drop A.length := by
  constructor
  · rintro ⟨t, rfl⟩
    refine ⟨⟨B ++ t, by rw [List.append_assoc]⟩, ⟨t, ?_⟩⟩
    rw [List.append_assoc, List.drop_left]
  · rintro ⟨⟨t, rfl⟩, ⟨u, e⟩⟩
    rw [List.drop_left] at e
    exact ⟨u, by rw [List.append_assoc, e]⟩
/-- the first word of a run -/
def hdW (r : Nat) : Nat := if r < 16 then r else 15 + r / 16
theorem hdW_lt {r : Nat} (h : r < 80) : hdW r < 20 := by
  unfold hdW
  split <;> omega
theorem run_parts (W : List (List Nat)) (r : Nat) (M : List Nat) : runT W r <+: M ↔ W.getD (hdW r) [] <+: M ∧ (16 ≤ r → W.getD (r - r / 16 * 16) [] <+: M.drop (W.getD (hdW r) []).length) := by
  unfold runT hdW
  by_cases h : r < 16
  · rw [if_pos h, if_pos h]
    exact ⟨fun x => ⟨x, fun y => absurd y (by omega)⟩, fun x => x.1⟩
  · rw [if_neg h, if_neg h, pref_tail]
    exact ⟨fun x => ⟨x.1, fun _ => x.2⟩, fun x => ⟨x.1, x.2 (by omega)⟩⟩
theorem run_uniq {W : List (List Nat)} (h : PF W) {r s : Nat} (hr : r < 80) (hs : s < 80) {M : List Nat} (h1 : runT W r <+: M) (h2 : runT W s <+: M) : r = s := by
  have a := (run_parts W r M).mp h1
  have b := (run_parts W s M).mp h2
  have e := pref_same h (hdW_lt hr) (hdW_lt hs) a.1 b.1
  have a2 := a.2
  rw [e] at a2
  have b2 := b.2
  have e0 := e
  unfold hdW at e
  by_cases z : r < 16
  · rw [if_pos z] at e
    by_cases y : s < 16
    · rw [if_pos y] at e
      exact e
    · rw [if_neg y] at e
      omega
  · rw [if_neg z] at e
    by_cases y : s < 16
    · rw [if_pos y] at e
      omega
    · rw [if_neg y] at e
      have t := pref_same h (by omega) (by omega) (a2 (by omega)) (b2 (by omega))
      omega
def runAt (W : List (List Nat)) (L : List Nat) (a : Nat) : Option Nat := (List.range 80).find? fun r => (runT W r).isPrefixOf (L.drop a)
theorem runAt_some {W : List (List Nat)} (h : PF W) {L : List Nat} {a r : Nat} : runAt W L a = some r ↔ r < 80 ∧ runT W r <+: L.drop a := by
  constructor
  · intro e
    have h1 := List.find?_some e
    have h2 := List.mem_of_find?_eq_some e
    exact ⟨List.mem_range.mp h2, List.isPrefixOf_iff_prefix.mp h1⟩
  · rintro ⟨h1, h2⟩
    cases e : runAt W L a with
    | none =>
      have := List.find?_eq_none.mp e r (List.mem_range.mpr h1)
      exact absurd (List.isPrefixOf_iff_prefix.mpr h2) (by simpa using this)
    | some s =>
      have h3 := List.find?_some e
      have h4 := List.mem_of_find?_eq_some e
      rw [run_uniq h h1 (List.mem_range.mp h4) h2 (List.isPrefixOf_iff_prefix.mp h3)]
theorem runAt_none {W : List (List Nat)} {L : List Nat} {a : Nat} : runAt W L a = none ↔ ∀ r, r < 80 → ¬ runT W r <+: L.drop a := by
  unfold runAt
  rw [List.find?_eq_none]
  constructor
  · intro h r hr z
    exact absurd (List.isPrefixOf_iff_prefix.mpr z) (by simpa using h r (List.mem_range.mpr hr))
  · intro h r hr z
    exact h r (List.mem_range.mp hr) (List.isPrefixOf_iff_prefix.mp z)
theorem runT_pos {W : List (List Nat)} (h : PF W) {r : Nat} (hr : r < 80) : 0 < (runT W r).length := by
  have := h.pos (hdW r) (hdW_lt hr)
  unfold runT
  unfold hdW at this
  split
  · rename_i z
    rw [if_pos z] at this
    exact this
  · rename_i z
    rw [if_neg z] at this
    rw [List.length_append]
    omega
def cN (d : Bool) : Nat := if d = true then 35 else 46
/-- the row that is read, within so many runs -/
def rdP (W : Bool → List (List Nat)) (m : Nat) (L : List Nat) : Nat → List Nat → Nat → Bool → Option (List Nat × Nat)
  | 0, row, a, _ => some (row, a)
  | f + 1, row, a, d => if row.length < m then (match runAt (W d) L a with
      | none => none
      | some r => if m < row.length + r ∨ (r = 0 ∧ 0 < a) then none else rdP W m L f (row ++ List.replicate r (cN d)) (a + (runT (W d) r).length) (!d))
    else some (row, a)
theorem rdP_full {W : Bool → List (List Nat)} {m : Nat} {L row : List Nat} {a f : Nat} {d : Bool} (h : m ≤ row.length) : rdP W m L f row a d = some (row, a) := by
  cases f with
  | zero => rfl
  | succ f =>
    unfold rdP
    rw [if_neg (by omega)]
theorem rdP_none {W : Bool → List (List Nat)} {m : Nat} {L row : List Nat} {a f : Nat} {d : Bool} (h : row.length < m) (e : runAt (W d) L a = none) : rdP W m L (f + 1) row a d = none := by
  unfold rdP
  rw [if_pos h, e]
theorem rdP_bad {W : Bool → List (List Nat)} {m r : Nat} {L row : List Nat} {a f : Nat} {d : Bool} (h : row.length < m) (e : runAt (W d) L a = some r) (b : m < row.length + r ∨ (r = 0 ∧ 0 < a)) : rdP W m L (f + 1) row a d = none := by
  unfold rdP
  rw [if_pos h, e]
  show (if _ then _ else _) = _
  rw [if_pos b]
theorem rdP_step {W : Bool → List (List Nat)} {m r : Nat} {L row : List Nat} {a f : Nat} {d : Bool} (h : row.length < m) (e : runAt (W d) L a = some r) (b : ¬ (m < row.length + r ∨ (r = 0 ∧ 0 < a))) : rdP W m L (f + 1) row a d = rdP W m L f (row ++ List.replicate r (cN d)) (a + (runT (W d) r).length) (!d) := by
  conv => lhs; unfold rdP
  rw [if_pos h, e]
  show (if _ then _ else _) = _
  rw [if_neg b]
/-- runs told, one behind the other -/
def plF (W : Bool → List (List Nat)) : List Nat → Bool → List Nat
  | [], _ => []
  | r :: rs, d => runT (W d) r ++ plF W rs (!d)
theorem cN_oth (d : Bool) : oth (cN d) = cN (!d) := by cases d <;> rfl
theorem rd_plain {W : Bool → List (List Nat)} (hW : ∀ d, PF (W d)) {m : Nat} (hm : m ≤ 79) : ∀ (rs : List Nat) (f : Nat) (L row : List Nat) (a : Nat) (d : Bool) (behind : List Nat), L.drop a = plF W rs d ++ behind → row.length + rs.sum = m → (∀ x ∈ rs.drop 1, 0 < x) → (rs ≠ [] → 0 < rs.sum) → (0 < a → ∀ x ∈ rs, 0 < x) → rs.length ≤ f →
    rdP W m L f row a d = some (row ++ unr rs (cN d), a + (plF W rs d).length)
  | [], f, L, row, a, d, behind, e, s, _, _, _, _ => by
    rw [List.sum_nil] at s
    rw [rdP_full (by omega)]
    show some (row, a) = some (row ++ [], a + 0)
    rw [List.append_nil, Nat.add_zero]
  | r :: rs, 0, L, row, a, d, behind, e, s, _, _, _, lf => by simp at lf
  | r :: rs, f + 1, L, row, a, d, behind, e, s, ps, ne, pa, lf => by
    rw [List.sum_cons] at s
    have sp := ne (by simp)
    rw [List.sum_cons] at sp
    have hr : runAt (W d) L a = some r := (runAt_some (hW d)).mpr ⟨by omega, by
      rw [e]
      exact ⟨plF W rs (!d) ++ behind, by rw [← List.append_assoc]; rfl⟩⟩
    have r80 : r < 80 := by omega
    have rp := runT_pos (hW d) r80
    rw [rdP_step (by omega) hr (by
      rintro (z | ⟨z, y⟩)
      · omega
      · have := pa y r (List.mem_cons_self ..)
        omega)]
    have e2 : L.drop (a + (runT (W d) r).length) = plF W rs (!d) ++ behind := by
      rw [← List.drop_drop, e]
      show ((runT (W d) r ++ plF W rs (!d)) ++ behind).drop _ = _
      rw [List.append_assoc, List.drop_left]
    have ps2 : ∀ x ∈ rs, 0 < x := ps
    rw [rd_plain hW hm rs f L (row ++ List.replicate r (cN d)) (a + (runT (W d) r).length) (!d) behind e2 (by rw [List.length_append, List.length_replicate]; omega) (fun x hx => ps2 x (List.mem_of_mem_drop hx)) (fun h => by
      cases rs with
      | nil => exact absurd rfl h
      | cons y t =>
        have := ps2 y (List.mem_cons_self ..)
        rw [List.sum_cons]
        omega) (fun _ => ps2) (by rw [List.length_cons] at lf; omega)]
    congr 1
    show (_, _) = (row ++ (List.replicate r (cN d) ++ unr rs (oth (cN d))), a + (runT (W d) r ++ plF W rs (!d)).length)
    rw [cN_oth, List.append_assoc, List.length_append, Nat.add_assoc]
/-- what is read is no longer than the breadth, and as far as bits go -/
theorem rdP_a {W : Bool → List (List Nat)} (hW : ∀ d, PF (W d)) {m : Nat} {L : List Nat} : ∀ (f : Nat) (row : List Nat) (a : Nat) (d : Bool) (r2 : List Nat) (a2 : Nat), a ≤ L.length → row.length ≤ m → rdP W m L f row a d = some (r2, a2) → r2.length ≤ m ∧ a2 ≤ L.length
  | 0, row, a, d, r2, a2, ha, hr, e => by
    have e : some (row, a) = some (r2, a2) := e
    cases e
    exact ⟨hr, ha⟩
  | f + 1, row, a, d, r2, a2, ha, hr, e => by
    by_cases z : row.length < m
    · cases q : runAt (W d) L a with
      | none =>
        rw [rdP_none z q] at e
        cases e
      | some r =>
        by_cases b : m < row.length + r ∨ (r = 0 ∧ 0 < a)
        · rw [rdP_bad z q b] at e
          cases e
        · rw [rdP_step z q b] at e
          have h2 := ((runAt_some (hW d)).mp q).2
          have h3 := h2.length_le
          rw [List.length_drop] at h3
          exact rdP_a hW f _ _ _ _ _ (by omega) (by rw [List.length_append, List.length_replicate]; omega) e
    · rw [rdP_full (by omega)] at e
      cases e
      exact ⟨hr, ha⟩
theorem rdP_row {W : Bool → List (List Nat)} {m : Nat} {L : List Nat} : ∀ (f : Nat) (row : List Nat) (a : Nat) (d : Bool) (r2 : List Nat) (a2 : Nat), Row row → rdP W m L f row a d = some (r2, a2) → Row r2
  | 0, row, a, d, r2, a2, hr, e => by
    have e : some (row, a) = some (r2, a2) := e
    cases e
    exact hr
  | f + 1, row, a, d, r2, a2, hr, e => by
    by_cases z : row.length < m
    · cases q : runAt (W d) L a with
      | none =>
        rw [rdP_none z q] at e
        cases e
      | some r =>
        by_cases b : m < row.length + r ∨ (r = 0 ∧ 0 < a)
        · rw [rdP_bad z q b] at e
          cases e
        · rw [rdP_step z q b] at e
          refine rdP_row f _ _ _ _ _ (fun x hx => ?_) e
          rcases List.mem_append.mp hx with h | h
          · exact hr x h
          · rw [(List.mem_replicate.mp h).2]
            cases d
            · exact .inl rfl
            · exact .inr rfl
    · rw [rdP_full (by omega)] at e
      cases e
      exact hr
/-! ### how the texts ask it -/
theorem take_pref {w M : List Nat} : M.take w.length = w ↔ w <+: M := by
  constructor
  · intro h
    rw [← h]
    exact List.take_prefix _ _
  · rintro ⟨t, rfl⟩
    exact List.take_left
theorem starts_at {l w : List Nat} {a : Nat} (h : a ≤ l.length) : Txt.startswith3 (sOf l) (sOf w) (a : Int) = decide (w <+: l.drop a) := by
  have ef : PySem.fromIndex (sOf l).length (a : Int) = a := by
    rw [sOf_len]
    unfold PySem.fromIndex
    omega
  unfold Txt.startswith3
  rw [ef, StrLaws.subAt_eq, sOf_list, sOf_list, sOf_len, sOf_len]
  rw [Bool.eq_iff_iff, Bool.and_eq_true, decide_eq_true_eq, decide_eq_true_eq, beq_iff_eq, take_pref]
  constructor
  · exact fun x => x.2
  · intro x
    have := x.length_le
    rw [List.length_drop] at this
    exact ⟨by omega, x⟩
theorem cut_at (l : List Nat) (a n : Nat) : cutS (sOf l) (some (a : Int)) (some ((a : Int) + (n : Int))) = sOf ((l.drop a).take n) := by
  rw [show (a : Int) + (n : Int) = ((a + n : Nat) : Int) from rfl]
  unfold cutS
  rw [HT.sIx_nat, HT.sIx_nat, sOf_len, sOf_list]
  congr 1
  by_cases h : a ≤ l.length
  · rw [Nat.min_eq_left h]
    by_cases h2 : a + n ≤ l.length
    · rw [Nat.min_eq_left h2, Nat.add_sub_cancel_left]
    · rw [Nat.min_eq_right (by omega), List.take_of_length_le (by rw [List.length_drop]; exact Nat.le_refl _), List.take_of_length_le (by rw [List.length_drop]; omega)]
  · rw [Nat.min_eq_right (by omega), Nat.min_eq_right (by omega), List.drop_length, List.drop_eq_nil_of_le (by omega), List.take_nil, List.take_nil]
/-! ### bits counted -/
theorem cnt_two : ∀ l : List Nat, cnt 48 l + cnt 49 l = ((l.filter fun c => c == 48 || c == 49).length : Int)
  | [] => rfl
  | c :: r => by
    have ih := cnt_two r
    rw [cnt_cons, cnt_cons, List.filter_cons]
    by_cases h : c = 48
    · subst h
      rw [if_pos rfl, if_neg (by decide), if_pos (by decide), List.length_cons]
      omega
    · by_cases h2 : c = 49
      · subst h2
        rw [if_neg (by decide), if_pos rfl, if_pos (by decide), List.length_cons]
        omega
      · rw [if_neg h, if_neg h2, if_neg (by simp [h, h2])]
        omega
def isB (l : List Nat) : Bool := l.all fun c => c == 48 || c == 49
theorem isB_iff {l : List Nat} : isB l = true ↔ Bts l := by
  unfold isB Bts
  rw [List.all_eq_true]
  constructor
  · intro h c hc
    have := h c hc
    rw [Bool.or_eq_true, beq_iff_eq, beq_iff_eq] at this
    exact this
  · intro h c hc
    rw [Bool.or_eq_true, beq_iff_eq, beq_iff_eq]
    exact h c hc
theorem bits_counted (l : List Nat) : decide (V.int (Txt.count (sOf l) (Str.ofString "0") + Txt.count (sOf l) (Str.ofString "1")) = V.int ((sOf l).length : Int)) = isB l := by
  have e0 : Txt.count (sOf l) (Str.ofString "0") = cnt 48 l := by
    have := count_is (sOf l) 48
    rw [sOf_list] at this
    exact this
  have e1 : Txt.count (sOf l) (Str.ofString "1") = cnt 49 l := by
    have := count_is (sOf l) 49
    rw [sOf_list] at this
    exact this
  rw [e0, e1, cnt_two, sOf_len, Bool.eq_iff_iff, decide_eq_true_eq, vint]
  unfold isB
  rw [List.all_eq_true]
  have key : (l.filter fun c => c == 48 || c == 49).length = l.length ↔ ∀ c ∈ l, (c == 48 || c == 49) = true := List.length_filter_eq_length_iff
  rw [← key]
  omega
/-- a test of two parts whose second is known where the first holds -/
theorem iteAndNo {p A B : Prop} [Decidable p] (b : B) (h : p → B → A) : if decide p = true then A else B := by
  by_cases z : p
  · rw [decide_eq_true z]
    exact h z b
  · rw [decide_eq_false z]
    exact b
end Fp

set_option Elab.async false
set_option linter.all false
set_option maxRecDepth 100000
set_option maxHeartbeats 4000000
/-! Bits of blocks, each with a mark behind it: their stretches. -/
namespace Fp
open PySem L2 PyProof.Rows
def NoMk (w : List Nat) : Prop := ∀ v, occ w v = false
theorem noMk_short {w : List Nat} (h : w.length < 12) : NoMk w := fun v => occ_far (by omega)
theorem noMk_pad {m : Nat} {w : List Nat} (h : mxZ 0 w ≤ 10) : NoMk (w ++ List.replicate m 48) := fun v => by
  cases e : occ (w ++ List.replicate m 48) v with
  | false => rfl
  | true =>
    exfalso
    obtain ⟨h1, h2⟩ := occ_iff.mp e
    have lt : v + 11 < w.length := by
      by_cases z : v + 11 < w.length
      · exact z
      · rw [List.getElem?_append_right (by omega), List.getElem?_replicate] at h1
        split at h1
        · cases h1
        · cases h1
    rw [List.drop_append_of_le_length (by omega), List.take_append_of_le_length (by rw [List.length_drop]; omega)] at h2
    have := ten_mxZ (t := 0) h2
    omega
def blk (ws : List (List Nat)) : List Nat := (ws.map (· ++ mkL)).flatten
theorem blk_cons (w : List Nat) (ws : List (List Nat)) : blk (w :: ws) = w ++ (mkL ++ blk ws) := by
  unfold blk
  rw [List.map_cons, List.flatten_cons, List.append_assoc]
theorem blk_app (a b : List (List Nat)) : blk (a ++ b) = blk a ++ blk b := by
  unfold blk
  rw [List.map_append, List.flatten_append]
theorem occ_app (P R : List Nat) (v : Nat) : occ (P ++ R) (P.length + v) = occ R v := by
  unfold occ
  rw [← List.drop_drop, List.drop_left]
theorem occ_here (P R : List Nat) : occ (P ++ (mkL ++ R)) P.length = true := by
  have := occ_app P (mkL ++ R) 0
  rw [Nat.add_zero] at this
  rw [this]
  rfl
theorem occ_before {w R : List Nat} (h : NoMk w) {u : Nat} (hu : u < w.length) : occ (w ++ (mkL ++ R)) u = false := by
  cases e : occ (w ++ (mkL ++ R)) u with
  | false => rfl
  | true =>
    exfalso
    obtain ⟨h1, h2⟩ := occ_iff.mp e
    by_cases z : u + 11 < w.length
    · rw [List.getElem?_append_left z] at h1
      rw [List.drop_append_of_le_length (by omega), List.take_append_of_le_length (by rw [List.length_drop]; omega)] at h2
      have := occ_iff.mpr ⟨h1, h2⟩
      rw [h u] at this
      cases this
    · rw [List.getElem?_append_right (by omega)] at h1
      have lt : u + 11 - w.length < 11 := by omega
      generalize u + 11 - w.length = j at h1 lt
      rw [List.getElem?_append_left (show j < mkL.length by show j < 12; omega)] at h1
      have : ∀ j, j < 11 → mkL[j]? = some 48 := by decide
      rw [this j lt] at h1
      cases h1
def posL : Nat → List (List Nat) → List Nat
  | _, [] => []
  | e, w :: ws => (e + w.length) :: posL (e + w.length + 12) ws
theorem occs_blk : ∀ (ws : List (List Nat)) (P Q : List Nat), (∀ w ∈ ws, NoMk w) → occs (P ++ (blk ws ++ Q)) (P.length + (blk ws).length) = occs (P ++ (blk ws ++ Q)) P.length ++ posL P.length ws
  | [], P, Q, _ => by
    show occs _ (P.length + 0) = _ ++ []
    rw [List.append_nil, Nat.add_zero]
  | w :: ws, P, Q, h => by
    have hw := h w (List.mem_cons_self ..)
    have ih := occs_blk ws (P ++ (w ++ mkL)) Q (fun x hx => h x (List.mem_cons_of_mem _ hx))
    have eL : P ++ (w ++ mkL) ++ (blk ws ++ Q) = P ++ (blk (w :: ws) ++ Q) := by
      rw [blk_cons]
      simp only [List.append_assoc]
    rw [eL] at ih
    have lm : mkL.length = 12 := rfl
    have e1 : (P ++ (w ++ mkL)).length = P.length + w.length + 12 := by
      rw [List.length_append, List.length_append, lm, Nat.add_assoc]
    have e2 : (blk (w :: ws)).length = w.length + 12 + (blk ws).length := by
      rw [blk_cons, List.length_append, List.length_append, lm, Nat.add_assoc]
    rw [e1] at ih
    rw [e2, show P.length + (w.length + 12 + (blk ws).length) = P.length + w.length + 12 + (blk ws).length by omega, ih]
    have one := occs_one (l := P ++ (blk (w :: ws) ++ Q)) (s := P.length) (k := P.length + w.length) (by omega) ?_ ?_
    · rw [one, List.append_assoc]
      rfl
    · rw [blk_cons, List.append_assoc, List.append_assoc, ← List.append_assoc, ← List.length_append]
      exact occ_here _ _
    · intro v a b
      obtain ⟨u, rfl⟩ : ∃ u, v = P.length + u := ⟨v - P.length, by omega⟩
      rw [occ_app, blk_cons, List.append_assoc, List.append_assoc]
      exact occ_before hw (by omega)
theorem occs_pre (l : List Nat) {s t : Nat} (h : s ≤ t) : ∃ X, occs l t = occs l s ++ X := by
  obtain ⟨d, rfl⟩ : ∃ d, t = s + d := ⟨t - s, by omega⟩
  refine ⟨((List.range d).map (s + ·)).filter (occ l), ?_⟩
  unfold occs
  rw [List.range_add, List.filter_append]
theorem posL_at : ∀ (ws : List (List Nat)) (e i : Nat), i < ws.length → (posL e ws)[i]? = some (e + (blk (ws.take i)).length + (ws.getD i []).length)
  | [], _, _, h => absurd h (Nat.not_lt_zero _)
  | w :: ws, e, 0, _ => rfl
  | w :: ws, e, i + 1, h => by
    have ih := posL_at ws (e + w.length + 12) i (by rw [List.length_cons] at h; omega)
    show (posL (e + w.length + 12) ws)[i]? = _
    rw [ih]
    show some _ = some (e + (blk (w :: ws.take i)).length + (ws.getD i []).length)
    rw [blk_cons, List.length_append, List.length_append]
    show some _ = some (e + (w.length + (12 + _)) + _)
    congr 1
    omega
theorem blk_take {ws : List (List Nat)} {i : Nat} (h : i < ws.length) : blk (ws.take (i + 1)) = blk (ws.take i) ++ (ws.getD i [] ++ mkL) := by
  rw [List.take_succ, List.getElem?_eq_getElem h, List.getD_eq_getElem?_getD, List.getElem?_eq_getElem h, blk_app]
  show _ ++ blk [ws[i]] = _
  rw [blk_cons]
  show _ ++ (ws[i] ++ (mkL ++ [])) = _
  rw [List.append_nil]
  rfl
theorem ends_blk {ws : List (List Nat)} {Q : List Nat} (h : ∀ w ∈ ws, NoMk w) {i : Nat} (hi : i < ws.length) : i < (endsL (blk ws ++ Q)).length ∧ (endsL (blk ws ++ Q)).getD i 0 = (blk (ws.take (i + 1))).length := by
  have o := occs_blk ws [] Q h
  rw [List.nil_append, List.length_nil, Nat.zero_add] at o
  obtain ⟨X, hX⟩ := occs_pre (blk ws ++ Q) (s := (blk ws).length) (t := (blk ws ++ Q).length) (by rw [List.length_append]; omega)
  rw [o] at hX
  have o0 : occs (blk ws ++ Q) 0 = [] := rfl
  rw [o0, List.nil_append] at hX
  have at_ : (endsL (blk ws ++ Q))[i]? = some ((blk (ws.take (i + 1))).length) := by
    unfold endsL
    rw [hX, List.getElem?_map]
    have p := posL_at ws 0 i hi
    have lt : i < (posL 0 ws).length := by
      rcases Nat.lt_or_ge i (posL 0 ws).length with z | z
      · exact z
      · rw [List.getElem?_eq_none z] at p
        cases p
    rw [List.getElem?_append_left lt, p, blk_take hi, List.length_append, List.length_append]
    show some (0 + _ + _ + 12) = some (_ + (_ + 12))
    congr 1
    omega
  refine ⟨?_, ?_⟩
  · rcases Nat.lt_or_ge i (endsL (blk ws ++ Q)).length with z | z
    · exact z
    · rw [List.getElem?_eq_none z] at at_
      cases at_
  · rw [List.getD_eq_getElem?_getD, at_]
    rfl
theorem stt_blk {ws : List (List Nat)} {Q : List Nat} (h : ∀ w ∈ ws, NoMk w) {i : Nat} (hi : i + 1 < ws.length) : i < (sttL (blk ws ++ Q)).length ∧ (sttL (blk ws ++ Q)).getD i [] = ws.getD (i + 1) [] ++ mkL := by
  obtain ⟨a1, a2⟩ := ends_blk (Q := Q) h (i := i) (by omega)
  obtain ⟨b1, b2⟩ := ends_blk (Q := Q) h (i := i + 1) hi
  have l1 := sttL_len (blk ws ++ Q)
  obtain ⟨_, _, _, _, s5⟩ := str_at (l := blk ws ++ Q) b1
  refine ⟨by omega, ?_⟩
  rw [List.getD_eq_getElem?_getD, s5, a2, b2]
  show List.take _ _ = _
  have e1 : blk ws ++ Q = blk (ws.take (i + 1)) ++ ((ws.getD (i + 1) [] ++ mkL) ++ (blk (ws.drop (i + 2)) ++ Q)) := by
    rw [← List.append_assoc, ← List.append_assoc, ← blk_take hi, ← blk_app, List.take_append_drop]
  rw [blk_take hi, e1, List.drop_left, List.length_append, Nat.add_sub_cancel_left, List.take_left]
theorem few_one {w : List Nat} (h : Few w) (ne : w ≠ []) (hb : ∀ c ∈ w, c = 48 ∨ c = 49) : 49 ∈ w := by
  by_cases z : 49 ∈ w
  · exact z
  · exfalso
    have e : w = List.replicate w.length 48 := by
      rw [List.eq_replicate_iff]
      refine ⟨rfl, fun c hc => ?_⟩
      rcases hb c hc with y | y
      · exact y
      · rw [y] at hc
        exact absurd hc z
    have t := h.1
    rw [e, trail_rep] at t
    have : 0 < w.length := List.length_pos_iff.mpr ne
    omega
theorem emp_end : emp ([49] ++ mkL) = true := by decide
theorem not_emp {c m : Nat} {w : List Nat} (hc : c = 48 ∨ c = 49 ∧ 49 ∈ w) : emp ((c :: w) ++ List.replicate m 48 ++ mkL) = false := by
  unfold emp
  refine decide_eq_false (fun z => ?_)
  rw [List.cons_append, List.cons_append, List.cons.injEq] at z
  obtain ⟨z1, z2⟩ := z
  rcases hc with rfl | ⟨rfl, hw⟩
  · cases z1
  · have e : mkL = List.replicate 11 48 ++ [49] := rfl
    rw [e, ← List.append_assoc] at z2
    have := List.append_inj_left' z2 rfl
    have hm : 49 ∈ List.replicate (List.length (49 :: (w ++ List.replicate m 48 ++ List.replicate 11 48 ++ [49])) - 2) 48 := by
      rw [← this]
      exact List.mem_append_left _ (List.mem_append_left _ hw)
    have := (List.mem_replicate.mp hm).2
    cases this
theorem strR_rows {ah be : List Nat} {W F' : List (List Nat)} {b : Bool} (hA : NoMk ah) (hW : ∀ w ∈ W, NoMk w ∧ emp (w ++ mkL) = false) (h : StrR (sttL (blk (ah :: (W ++ List.replicate 5 [49])) ++ be)) F' b) : b = true ∧ F' = W.map (· ++ mkL) := by
  have hN : ∀ w ∈ ah :: (W ++ List.replicate 5 [49]), NoMk w := fun w hw => by
    rcases List.mem_cons.mp hw with rfl | hw
    · exact hA
    rcases List.mem_append.mp hw with hw | hw
    · exact (hW w hw).1
    · rw [(List.mem_replicate.mp hw).2]
      exact noMk_short (by decide)
  have len : (ah :: (W ++ List.replicate 5 [49])).length = W.length + 6 := by
    rw [List.length_cons, List.length_append, List.length_replicate]
  have st := fun i (hi : i + 1 < (ah :: (W ++ List.replicate 5 [49])).length) => stt_blk (Q := be) hN hi
  rw [len] at st
  generalize sttL (blk (ah :: (W ++ List.replicate 5 [49])) ++ be) = F at h st
  have lF := (st (W.length + 4) (by omega)).1
  have row : ∀ i, i < W.length → F.getD i [] = W.getD i [] ++ mkL := fun i hi => by
    rw [(st i (by omega)).2, List.getD_cons_succ, List.getD_eq_getElem?_getD, List.getElem?_append_left hi, ← List.getD_eq_getElem?_getD]
  have rowE : ∀ i, i < W.length → emp (F.getD i []) = false := fun i hi => by
    rw [row i hi, List.getD_eq_getElem?_getD, List.getElem?_eq_getElem hi]
    exact (hW _ (List.getElem_mem hi)).2
  have fin : ∀ i, W.length ≤ i → i < W.length + 5 → emp (F.getD i []) = true := fun i h1 h2 => by
    rw [(st i (by omega)).2, List.getD_cons_succ, List.getD_eq_getElem?_getD, List.getElem?_append_right h1, List.getElem?_replicate, if_pos (by omega)]
    exact emp_end
  have two : E2 F (W.length + 1) := ⟨fin _ (by omega) (by omega), fin _ (by omega) (by omega)⟩
  rcases h with ⟨hb, a, a1, a2, a3, a4, a5⟩ | ⟨_, no, _⟩
  · refine ⟨hb, ?_⟩
    have n1 : ¬ a ≤ W.length := fun z => by
      have := a3.1
      rw [rowE (a - 1) (by omega)] at this
      cases this
    have n2 : ¬ W.length + 1 < a := fun z => a4 _ (by omega) z two
    have ea : a - 1 = W.length := by omega
    rw [a5, ea]
    refine List.ext_getElem? fun i => ?_
    rw [List.getElem?_map]
    by_cases z : i < W.length
    · have r := row i z
      rw [List.getD_eq_getElem?_getD, List.getElem?_eq_getElem (show i < F.length by omega), List.getD_eq_getElem?_getD, List.getElem?_eq_getElem z] at r
      rw [List.getElem?_take_of_lt z, List.getElem?_eq_getElem (show i < F.length by omega), List.getElem?_eq_getElem z]
      exact congrArg some r
    · rw [List.getElem?_eq_none (by rw [List.length_take]; omega), List.getElem?_eq_none (by omega)]
      rfl
  · exact absurd two (no _ (by omega) (by omega))
end Fp

set_option Elab.async false
set_option linter.all false
set_option maxRecDepth 100000
set_option maxHeartbeats 4000000
/-! A block that came whole, with the mark ahead of it and the one behind it: its stretch among any bits (for k25). -/
namespace Fp
open PySem L2 PyProof.Rows
theorem ends_inner {X w Y : List Nat} (h : NoMk w) : ∃ Z, endsL (X ++ (mkL ++ (w ++ (mkL ++ Y)))) = (occs (X ++ (mkL ++ (w ++ (mkL ++ Y)))) X.length).map (· + 12) ++ (X.length + 12) :: (X.length + 12 + w.length + 12) :: Z := by
  have o1 := occs_one (l := X ++ (mkL ++ (w ++ (mkL ++ Y)))) (s := X.length) (k := X.length) (Nat.le_refl _) (occ_here X _) (fun v a b => absurd b (by omega))
  have o2 := occs_blk [w] (X ++ mkL) Y (fun x hx => by rw [List.mem_singleton.mp hx]; exact h)
  have eL : X ++ mkL ++ (blk [w] ++ Y) = X ++ (mkL ++ (w ++ (mkL ++ Y))) := by
    rw [blk_cons]
    show X ++ mkL ++ (w ++ (mkL ++ []) ++ Y) = _
    simp only [List.append_assoc, List.append_nil, List.nil_append]
  have lm : mkL.length = 12 := rfl
  have lb : (blk [w]).length = w.length + 12 := by
    rw [blk_cons, List.length_append]
    rfl
  rw [eL, List.length_append, lm, lb, o1] at o2
  obtain ⟨Z, hZ⟩ := occs_pre (X ++ (mkL ++ (w ++ (mkL ++ Y)))) (s := X.length + 12 + (w.length + 12)) (t := (X ++ (mkL ++ (w ++ (mkL ++ Y)))).length) (by
    rw [List.length_append, List.length_append, List.length_append, List.length_append, lm]
    omega)
  rw [o2] at hZ
  refine ⟨Z.map (· + 12), ?_⟩
  unfold endsL
  rw [hZ]
  simp only [List.map_append, List.map_cons, List.map_nil, List.append_assoc, List.cons_append, List.nil_append, posL]
theorem stt_inner {X w Y : List Nat} (h : NoMk w) : ∃ s, s + 1 < (endsL (X ++ (mkL ++ (w ++ (mkL ++ Y))))).length ∧ (endsL (X ++ (mkL ++ (w ++ (mkL ++ Y)))))[s]? = some (X.length + 12) ∧ (sttL (X ++ (mkL ++ (w ++ (mkL ++ Y)))))[s]? = some (w ++ mkL) := by
  obtain ⟨Z, hZ⟩ := ends_inner (X := X) (Y := Y) h
  generalize hA : (occs (X ++ (mkL ++ (w ++ (mkL ++ Y)))) X.length).map (· + 12) = A at hZ
  have g0 : (endsL (X ++ (mkL ++ (w ++ (mkL ++ Y)))))[A.length]? = some (X.length + 12) := by
    rw [hZ, List.getElem?_append_right (Nat.le_refl _), Nat.sub_self]
    rfl
  have g1 : (endsL (X ++ (mkL ++ (w ++ (mkL ++ Y)))))[A.length + 1]? = some (X.length + 12 + w.length + 12) := by
    rw [hZ, List.getElem?_append_right (by omega), show A.length + 1 - A.length = 1 by omega]
    rfl
  have lt : A.length + 1 < (endsL (X ++ (mkL ++ (w ++ (mkL ++ Y))))).length := by
    rw [hZ, List.length_append, List.length_cons, List.length_cons]
    omega
  refine ⟨A.length, lt, g0, ?_⟩
  obtain ⟨_, _, _, _, s5⟩ := str_at lt
  simp only [s5, List.getD_eq_getElem?_getD, g0, g1]
  show some ((List.drop (X.length + 12) _).take (X.length + 12 + w.length + 12 - (X.length + 12))) = _
  have e1 : X ++ (mkL ++ (w ++ (mkL ++ Y))) = (X ++ mkL) ++ ((w ++ mkL) ++ Y) := by simp only [List.append_assoc]
  have e2 : X.length + 12 = (X ++ mkL).length := by
    rw [List.length_append]
    rfl
  have e3 : X.length + 12 + w.length + 12 - (X.length + 12) = (w ++ mkL).length := by
    rw [List.length_append]
    show _ = w.length + 12
    omega
  rw [e3, e1, e2, List.drop_left, List.take_left]
end Fp

set_option Elab.async false
set_option linter.all false
set_option maxRecDepth 100000
set_option maxHeartbeats 4000000
/-! Bits followed through spoils, each with its place in what was sent (for k25). -/
namespace Fp
open PySem L2 PyProof.Rows
abbrev Ar := List (Nat × Option Nat)
def RisesP (a b : Nat × Option Nat) : Prop := ∀ p q, a.2 = some p → b.2 = some q → p < q
def OkR (l : List Nat) (x : Ar) : Prop := (∀ y ∈ x, ∀ p, y.2 = some p → l[p]? = some y.1) ∧ x.Pairwise RisesP
def arr0 (l : List Nat) : Ar := (List.range l.length).map fun i => (l.getD i 0, some i)
theorem okR_0 (l : List Nat) : OkR l (arr0 l) := by
  refine ⟨fun y hy p hp => ?_, ?_⟩
  · obtain ⟨i, hi, rfl⟩ := List.mem_map.mp hy
    have hi := List.mem_range.mp hi
    have e : i = p := Option.some.inj hp
    rw [← e]
    show l[i]? = some (l.getD i 0)
    rw [List.getD_eq_getElem?_getD, List.getElem?_eq_getElem hi]
    rfl
  · unfold arr0
    rw [List.pairwise_map]
    refine List.Pairwise.imp (fun {a b} h => ?_) List.pairwise_lt_range
    intro p q hp hq
    cases hp
    cases hq
    exact h
theorem okR_sub {l : List Nat} {x z : Ar} (h : OkR l x) (s : z.Sublist x) : OkR l z := ⟨fun y hy => h.1 y (s.subset hy), h.2.sublist s⟩
theorem okR_ins {l : List Nat} {A B : Ar} {d : Nat} (h : OkR l (A ++ B)) : OkR l (A ++ (d, none) :: B) := by
  refine ⟨fun y hy p hp => ?_, ?_⟩
  · rcases List.mem_append.mp hy with z | z
    · exact h.1 y (List.mem_append_left _ z) p hp
    · rcases List.mem_cons.mp z with rfl | z
      · cases hp
      · exact h.1 y (List.mem_append_right _ z) p hp
  · obtain ⟨h1, h2, h3⟩ := List.pairwise_append.mp h.2
    refine List.pairwise_append.mpr ⟨h1, List.pairwise_cons.mpr ⟨(fun b _ p q hp _ => by cases hp), h2⟩, fun a ha b hb => ?_⟩
    rcases List.mem_cons.mp hb with rfl | hb
    · intro p q _ hq
      cases hq
    · exact h3 a ha b hb
theorem okR_put {l : List Nat} {x : Ar} (h : OkR l x) (n d : Nat) : OkR l (x.take n ++ (d, none) :: x.drop n) := okR_ins (by rw [List.take_append_drop]; exact h)
theorem okR_erase {l : List Nat} {x : Ar} (h : OkR l x) (n : Nat) : OkR l (x.eraseIdx n) := okR_sub h (List.eraseIdx_sublist x n)
theorem okR_set {l : List Nat} {x : Ar} (h : OkR l x) {n d : Nat} (hn : n < x.length) : OkR l (x.set n (d, none)) := by
  rw [List.set_eq_take_append_cons_drop, if_pos hn]
  refine okR_ins (okR_sub h ?_)
  have := List.eraseIdx_sublist x n
  rw [List.eraseIdx_eq_take_drop_succ] at this
  exact this
/-- a place stands once -/
theorem place_once {l : List Nat} {x : Ar} (h : OkR l x) {i j p : Nat} (hi : (x.map Prod.snd)[i]? = some (some p)) (hj : (x.map Prod.snd)[j]? = some (some p)) : i = j := by
  rw [List.getElem?_map] at hi hj
  cases ei : x[i]? with
  | none =>
    rw [ei] at hi
    cases hi
  | some a =>
    cases ej : x[j]? with
    | none =>
      rw [ej] at hj
      cases hj
    | some b =>
      rw [ei] at hi
      rw [ej] at hj
      have hi : a.2 = some p := Option.some.inj hi
      have hj : b.2 = some p := Option.some.inj hj
      obtain ⟨li, ei⟩ := List.getElem?_eq_some_iff.mp ei
      obtain ⟨lj, ej⟩ := List.getElem?_eq_some_iff.mp ej
      have pw := List.pairwise_iff_getElem.mp h.2
      rcases Nat.lt_trichotomy i j with z | z | z
      · have := pw i j li lj z p p (by rw [ei]; exact hi) (by rw [ej]; exact hj)
        omega
      · exact z
      · have := pw j i lj li z p p (by rw [ej]; exact hj) (by rw [ei]; exact hi)
        omega
/-- what came whole is what was sent -/
theorem came_bits {l : List Nat} {x : Ar} (h : OkR l x) {a b n : Nat} (e : ((x.map Prod.snd).drop a).take n = (List.range n).map fun k => some (b + k)) : ((x.map Prod.fst).drop a).take n = (l.drop b).take n ∧ b + n ≤ l.length ∨ n = 0 := by
  by_cases n0 : n = 0
  · exact .inr n0
  left
  have at_ : ∀ k, k < n → ∃ c, x[a + k]? = some (c, some (b + k)) ∧ l[b + k]? = some c := fun k hk => by
    have e1 : (((x.map Prod.snd).drop a).take n)[k]? = some (some (b + k)) := by
      rw [e, List.getElem?_map, List.getElem?_range hk]
      rfl
    rw [List.getElem?_take_of_lt hk, List.getElem?_drop, List.getElem?_map] at e1
    cases ex : x[a + k]? with
    | none =>
      rw [ex] at e1
      cases e1
    | some y =>
      rw [ex] at e1
      have e1 : y.2 = some (b + k) := Option.some.inj e1
      exact ⟨y.1, by rw [← e1], h.1 y (List.mem_of_getElem? ex) _ e1⟩
  have bn : b + n ≤ l.length := by
    obtain ⟨c, _, h2⟩ := at_ (n - 1) (by omega)
    have := (List.getElem?_eq_some_iff.mp h2).1
    omega
  refine ⟨?_, bn⟩
  refine List.ext_getElem? fun k => ?_
  by_cases hk : k < n
  · obtain ⟨c, h1, h2⟩ := at_ k hk
    rw [List.getElem?_take_of_lt hk, List.getElem?_take_of_lt hk, List.getElem?_drop, List.getElem?_drop, List.getElem?_map, h1, h2]
    rfl
  · rw [List.getElem?_eq_none (by rw [List.length_take]; omega), List.getElem?_eq_none (by rw [List.length_take]; omega)]
end Fp

set_option Elab.async false
set_option linter.all false
set_option maxRecDepth 100000
set_option maxHeartbeats 4000000
/-! Tuples in a list (of any kind), and rows that came whole (for k25). -/
namespace Fp
open PySem L2 PyProof.Rows
/-! ### tuples in a list -/
def TpsAt {α : Type} (f : α → List V) (H : Hp) : List V → List α → Prop
  | [], [] => True
  | v :: vs, x :: xs => (∃ a, v = .ref a ∧ H a = some (.tup (f x))) ∧ TpsAt f H vs xs
  | _, _ => False
section
variable {α : Type} {f : α → List V} {H H' : Hp}
theorem TpsAt.len : ∀ {vs : List V} {xs : List α}, TpsAt f H vs xs → vs.length = xs.length
  | [], [], _ => rfl
  | _ :: _, _ :: _, ⟨_, r⟩ => congrArg (· + 1) (TpsAt.len r)
  | [], _ :: _, h => h.elim
  | _ :: _, [], h => h.elim
theorem TpsAt.mono (k : ∀ (a : Addr) (xs : List V), H a = some (.tup xs) → H' a = some (.tup xs)) : ∀ {vs : List V} {xs : List α}, TpsAt f H vs xs → TpsAt f H' vs xs
  | [], [], _ => trivial
  | _ :: _, _ :: _, ⟨⟨t, e, h⟩, r⟩ => ⟨⟨t, e, k _ _ h⟩, TpsAt.mono k r⟩
  | [], _ :: _, h => h.elim
  | _ :: _, [], h => h.elim
theorem TpsAt.get : ∀ {vs : List V} {xs : List α} {k : Nat} {x : α}, TpsAt f H vs xs → xs[k]? = some x → ∃ t, vs[k]? = some (.ref t) ∧ H t = some (.tup (f x))
  | [], [], _, _, _, h => by cases h
  | _ :: _, _ :: _, 0, x, ⟨⟨t, e, h⟩, _⟩, hk => by
    cases hk
    exact ⟨t, congrArg some e, h⟩
  | _ :: _, _ :: _, k + 1, x, ⟨_, r⟩, hk => TpsAt.get (k := k) r hk
  | [], _ :: _, _, _, h, _ => h.elim
  | _ :: _, [], _, _, h, _ => h.elim
theorem TpsAt.getV : ∀ {vs : List V} {xs : List α} {k : Nat} {v : V}, TpsAt f H vs xs → vs[k]? = some v → ∃ t x, xs[k]? = some x ∧ v = .ref t ∧ H t = some (.tup (f x))
  | [], [], _, _, _, h => by cases h
  | _ :: _, x :: _, 0, v, ⟨⟨t, e, h⟩, _⟩, hk => by
    cases hk
    exact ⟨t, x, rfl, e, h⟩
  | _ :: _, _ :: _, k + 1, v, ⟨_, r⟩, hk => TpsAt.getV (k := k) r hk
  | [], _ :: _, _, _, h, _ => h.elim
  | _ :: _, [], _, _, h, _ => h.elim
theorem TpsAt.app {ws : List V} {ys : List α} (k : TpsAt f H ws ys) : ∀ {vs : List V} {xs : List α}, TpsAt f H vs xs → TpsAt f H (vs ++ ws) (xs ++ ys)
  | [], [], _ => k
  | _ :: _, _ :: _, h => ⟨h.1, TpsAt.app k h.2⟩
  | [], _ :: _, h => h.elim
  | _ :: _, [], h => h.elim
theorem TpsAt.take : ∀ {vs : List V} {xs : List α} (n : Nat), TpsAt f H vs xs → TpsAt f H (vs.take n) (xs.take n)
  | [], [], n, _ => by rw [List.take_nil, List.take_nil]; trivial
  | _ :: _, _ :: _, 0, _ => trivial
  | _ :: _, _ :: _, n + 1, h => ⟨h.1, TpsAt.take n h.2⟩
  | [], _ :: _, _, h => h.elim
  | _ :: _, [], _, h => h.elim
theorem TpsAt.drop : ∀ {vs : List V} {xs : List α} (n : Nat), TpsAt f H vs xs → TpsAt f H (vs.drop n) (xs.drop n)
  | [], [], n, _ => by rw [List.drop_nil, List.drop_nil]; trivial
  | _ :: _, _ :: _, 0, h => h
  | _ :: _, _ :: _, n + 1, h => TpsAt.drop n h.2
  | [], _ :: _, _, h => h.elim
  | _ :: _, [], _, h => h.elim
theorem TpsAt.one {t : Addr} {x : α} (h : H t = some (.tup (f x))) : TpsAt f H [.ref t] [x] := ⟨⟨t, rfl, h⟩, trivial⟩
theorem TpsAt.push {vs : List V} {xs : List α} {t : Addr} {x : α} (h : TpsAt f H vs xs) (ht : H t = some (.tup (f x))) : TpsAt f H (vs ++ [.ref t]) (xs ++ [x]) := TpsAt.app (TpsAt.one ht) h
end
/-! ### data in general -/
theorem lay_all {α : Type} (f : α → PyData) : ∀ {xs : List α}, (∀ x ∈ xs, PyData.canLay0 (f x) = true) → PyData.canLayAll0 (xs.map f) = true
  | [], _ => by simp [PyData.canLayAll0]
  | x :: xs, h => by
    have ih := lay_all f (xs := xs) fun y hy => h y (List.mem_cons_of_mem _ hy)
    have h1 := h x (List.mem_cons_self ..)
    simp only [List.map_cons, PyData.canLayAll0, h1, ih, Bool.and_true]
theorem depth_all {α : Type} (f : α → PyData) (n : Nat) : ∀ {xs : List α}, (∀ x ∈ xs, PyData.depth (f x) ≤ n) → PyData.depthAll (xs.map f) ≤ n
  | [], _ => by simp [PyData.depthAll]
  | x :: xs, h => by
    have ih := depth_all f n (xs := xs) fun y hy => h y (List.mem_cons_of_mem _ hy)
    have h1 := h x (List.mem_cons_self ..)
    simp only [List.map_cons, PyData.depthAll]
    omega
/-- data that may be laid, not deep -/
def DOk (d : PyData) (n : Nat) : Prop := PyData.canLay0 d = true ∧ PyData.depth d ≤ n
theorem DOk.shaped {d : PyData} {n : Nat} (h : DOk d n) (hn : n ≤ 64 := by decide) : SeqAt.shaped d = true := by
  show (PyData.canLay0 d && decide (PyData.depth d ≤ 64)) = true
  rw [Bool.and_eq_true]
  exact ⟨h.1, decide_eq_true (Nat.le_trans h.2 hn)⟩
theorem DOk.refl {d : PyData} {n : Nat} (h : DOk d n) : PyData.eqv d d = true := SeqAt.eqv_refl _ h.1
theorem DOk.list {α : Type} {f : α → PyData} {n : Nat} {xs : List α} (h : ∀ x ∈ xs, DOk (f x) n) : DOk (.list (xs.map f)) (n + 1) := by
  refine ⟨by simp only [PyData.canLay0]; exact lay_all f fun x hx => (h x hx).1, ?_⟩
  have := depth_all f n fun x hx => (h x hx).2
  simp only [PyData.depth]
  omega
theorem DOk.tuple {α : Type} {f : α → PyData} {n : Nat} {xs : List α} (h : ∀ x ∈ xs, DOk (f x) n) : DOk (.tuple (xs.map f)) (n + 1) := by
  refine ⟨by simp only [PyData.canLay0]; exact lay_all f fun x hx => (h x hx).1, ?_⟩
  have := depth_all f n fun x hx => (h x hx).2
  simp only [PyData.depth]
  omega
theorem DOk.int (i : Int) : DOk (.int i) 0 := ⟨by simp only [PyData.canLay0], by simp only [PyData.depth]; exact Nat.le_refl _⟩
theorem DOk.bool (b : Bool) : DOk (.bool b) 0 := ⟨by simp only [PyData.canLay0], by simp only [PyData.depth]; exact Nat.le_refl _⟩
theorem DOk.none : DOk .none 0 := ⟨by simp only [PyData.canLay0], by simp only [PyData.depth]; exact Nat.le_refl _⟩
theorem DOk.str {l : List Nat} (h : Codes l) : DOk (.str (sOf l)) 0 := ⟨by simp only [PyData.canLay0]; exact strOk_of h, by simp only [PyData.depth]; exact Nat.le_refl _⟩
theorem DOk.word {z : Str} (h : PyData.strOk z = true) : DOk (.str z) 0 := ⟨by simp only [PyData.canLay0]; exact h, by simp only [PyData.depth]; exact Nat.le_refl _⟩
theorem DOk.mono {d : PyData} {n m : Nat} (h : DOk d n) (l : n ≤ m) : DOk d m := ⟨h.1, Nat.le_trans h.2 l⟩
theorem dp_all {α : Type} {K : PySem.W.Frag} {H : Hp} {g : α → V} {f : α → PyData} : ∀ {xs : List α}, (∀ x ∈ xs, Dp K H (g x) (f x)) → DpAll K H (xs.map g) (xs.map f)
  | [], _ => .nil
  | x :: xs, h => .cons (h x (List.mem_cons_self ..)) (dp_all fun y hy => h y (List.mem_cons_of_mem _ hy))
theorem eqvAll_map {α : Type} [DecidableEq α] {f : α → PyData} (h : ∀ x y, PyData.eqv (f x) (f y) = decide (x = y)) : ∀ xs ys : List α, PyData.eqvAll (xs.map f) (ys.map f) = decide (xs = ys)
  | [], [] => by simp [PyData.eqvAll]
  | [], y :: ys => by simp [PyData.eqvAll]
  | x :: xs, [] => by simp [PyData.eqvAll]
  | x :: xs, y :: ys => by
    simp only [List.map_cons, PyData.eqvAll, h x y, eqvAll_map h xs ys]
    by_cases e : x = y <;> by_cases e2 : xs = ys <;> simp [e, e2]
theorem dp_tups {α : Type} {K : PySem.W.Frag} {H : Hp} {g : α → List V} {f : α → List PyData} (h : ∀ x, DpAll K H (g x) (f x)) : ∀ {vs : List V} {xs : List α}, TpsAt g H vs xs → DpAll K H vs (xs.map fun x => .tuple (f x))
  | [], [], _ => .nil
  | _ :: _, x :: _, ⟨⟨t, e, ht⟩, r⟩ => by
    subst e
    exact .cons (.tup (.inl (.inl ht)) (h x)) (dp_tups h r)
  | [], _ :: _, h => h.elim
  | _ :: _, [], h => h.elim
theorem cutV_mid (xs : List V) (a b : Nat) : cutV xs (some (a : Int)) (some (b : Int)) = (xs.drop a).take (b - a) := by
  unfold cutV
  rw [HT.sIx_nat, HT.sIx_nat]
  show (xs.drop (min a xs.length)).take (min b xs.length - min a xs.length) = _
  by_cases ha : a ≤ xs.length
  · rw [show min a xs.length = a from Nat.min_eq_left ha]
    by_cases hb : b ≤ xs.length
    · rw [show min b xs.length = b from Nat.min_eq_left hb]
    · rw [show min b xs.length = xs.length from Nat.min_eq_right (by omega), List.take_of_length_le (by rw [List.length_drop]; omega), List.take_of_length_le (by rw [List.length_drop]; omega)]
  · rw [show min a xs.length = xs.length from Nat.min_eq_right (by omega), List.drop_eq_nil_of_le (Nat.le_refl _), List.drop_eq_nil_of_le (show xs.length ≤ a by omega), List.take_nil, List.take_nil]
theorem least_nat {p : Nat → Prop} (h : ∃ a, p a) : ∃ a, p a ∧ ∀ a', a' < a → ¬ p a' := by
  obtain ⟨a, ha⟩ := h
  induction a using Nat.strongRecOn with
  | _ a ih =>
    by_cases z : ∃ a', a' < a ∧ p a'
    · obtain ⟨a', h1, h2⟩ := z
      exact ih a' h1 h2
    · exact ⟨a, ha, fun a' h1 h2 => z ⟨a', h1, h2⟩⟩
/-! ### places, as values -/
def plV : Option Nat → V
  | none => .non
  | some p => .int (p : Int)
def plD : Option Nat → PyData
  | none => .none
  | some p => .int (p : Int)
def arV (y : Nat × Option Nat) : List V := [.str (sOf [y.1]), plV y.2]
theorem pl_flat : ∀ pl : List (Option Nat), (pl.map plV).all flatV = true
  | [] => rfl
  | none :: r => pl_flat r
  | some p :: r => pl_flat r
theorem pl_eq (y : Option Nat) (b : Nat) : eqV (plV y) (.int (b : Int)) = decide (y = some b) := by
  cases y with
  | none => rfl
  | some p =>
    show ((p : Int) == (b : Int)) = _
    by_cases e : p = b
    · rw [e]
      simp
    · have : ¬ ((p : Int) = (b : Int)) := fun z => e (Int.ofNat.inj z)
      simp [e, this]
theorem pl_in (pl : List (Option Nat)) (b : Nat) : inV (.int (b : Int)) (pl.map plV) = decide (some b ∈ pl) := by
  unfold inV
  induction pl with
  | nil => rfl
  | cons y r ih =>
    rw [List.map_cons, List.any_cons, ih, pl_eq]
    by_cases e : y = some b
    · simp [e]
    · have e' : ¬ some b = y := fun z => e z.symm
      simp [e, e']
theorem plD_eqv (x y : Option Nat) : PyData.eqv (plD x) (plD y) = decide (x = y) := by
  cases x with
  | none =>
    cases y with
    | none => simp [plD, PyData.eqv]
    | some q => simp [plD, PyData.eqv]
  | some p =>
    cases y with
    | none => simp [plD, PyData.eqv]
    | some q =>
      simp only [plD, PyData.eqv]
      by_cases e : p = q
      · simp [e]
      · have : ¬ ((p : Int) = (q : Int)) := fun z => e (Int.ofNat.inj z)
        simp [e, this]
theorem plD_ok (x : Option Nat) : DOk (plD x) 0 := by
  cases x with
  | none => exact DOk.none
  | some p => exact DOk.int _
theorem dp_pl {K : PySem.W.Frag} {H : Hp} (x : Option Nat) : Dp K H (plV x) (plD x) := by
  cases x with
  | none => exact .non
  | some p => exact .int _
theorem arr0_at {l : List Nat} {i : Nat} (h : i < l.length) : (arr0 l)[i]? = some (l[i], some i) := by
  unfold arr0
  rw [List.getElem?_map, List.getElem?_range h]
  show some (l.getD i 0, some i) = _
  rw [List.getD_eq_getElem?_getD, List.getElem?_eq_getElem h]
  rfl
theorem arr0_len (l : List Nat) : (arr0 l).length = l.length := by
  unfold arr0
  rw [List.length_map, List.length_range]
theorem arr0_bits (l : List Nat) : (arr0 l).map Prod.fst = l := by
  refine List.ext_getElem? fun i => ?_
  rw [List.getElem?_map]
  by_cases h : i < l.length
  · rw [arr0_at h, List.getElem?_eq_getElem h]
    rfl
  · rw [List.getElem?_eq_none (by rw [arr0_len]; omega), List.getElem?_eq_none (by omega)]
    rfl
/-! ### ends once -/
theorem ends_uniq {l : List Nat} {s t v : Nat} (h1 : (endsL l)[s]? = some v) (h2 : (endsL l)[t]? = some v) : s = t := by
  unfold endsL at h1 h2
  rw [List.getElem?_map] at h1 h2
  have so := occs_sorted l l.length
  cases e1 : (occs l l.length)[s]? with
  | none =>
    rw [e1] at h1
    cases h1
  | some a =>
    cases e2 : (occs l l.length)[t]? with
    | none =>
      rw [e2] at h2
      cases h2
    | some b =>
      rw [e1] at h1
      rw [e2] at h2
      have h1 : a + 12 = v := Option.some.inj h1
      have h2 : b + 12 = v := Option.some.inj h2
      obtain ⟨l1, g1⟩ := List.getElem?_eq_some_iff.mp e1
      obtain ⟨l2, g2⟩ := List.getElem?_eq_some_iff.mp e2
      have pw := List.pairwise_iff_getElem.mp so
      rcases Nat.lt_trichotomy s t with z | z | z
      · have := pw s t l1 l2 z
        omega
      · exact z
      · have := pw t s l2 l1 z
        omega
/-! ### what was sent, block by block -/
theorem sent_at {ws : List (List Nat)} {Q : List Nat} (h : ∀ w ∈ ws, NoMk w) {k : Nat} (hk : k + 1 < ws.length) : k + 1 < (endsL (blk ws ++ Q)).length ∧ 12 ≤ (endsL (blk ws ++ Q)).getD k 0 ∧ (endsL (blk ws ++ Q)).getD (k + 1) 0 = (endsL (blk ws ++ Q)).getD k 0 + (ws.getD (k + 1) []).length + 12 ∧ ((blk ws ++ Q).drop ((endsL (blk ws ++ Q)).getD k 0 - 12)).take ((ws.getD (k + 1) []).length + 24) = mkL ++ (ws.getD (k + 1) [] ++ mkL) := by
  obtain ⟨a1, a2⟩ := ends_blk (Q := Q) h (i := k) (by omega)
  obtain ⟨b1, b2⟩ := ends_blk (Q := Q) h (i := k + 1) hk
  have lm : mkL.length = 12 := rfl
  have t1 := blk_take (ws := ws) (i := k) (by omega)
  have t2 := blk_take (ws := ws) (i := k + 1) hk
  have l1 : (blk (ws.take (k + 1))).length = (blk (ws.take k)).length + (ws.getD k []).length + 12 := by
    rw [t1, List.length_append, List.length_append, lm]
    omega
  have l2 : (blk (ws.take (k + 1 + 1))).length = (blk (ws.take (k + 1))).length + (ws.getD (k + 1) []).length + 12 := by
    rw [t2, List.length_append, List.length_append, lm]
    omega
  refine ⟨b1, by omega, by omega, ?_⟩
  have e1 : blk ws ++ Q = (blk (ws.take k) ++ ws.getD k []) ++ ((mkL ++ (ws.getD (k + 1) [] ++ mkL)) ++ (blk (ws.drop (k + 2)) ++ Q)) := by
    have := blk_app (ws.take (k + 2)) (ws.drop (k + 2))
    rw [List.take_append_drop] at this
    rw [this, t2, t1]
    simp only [List.append_assoc]
  rw [a2, l1, show (blk (ws.take k)).length + (ws.getD k []).length + 12 - 12 = (blk (ws.take k) ++ ws.getD k []).length by rw [List.length_append]; omega, e1, List.drop_left, show (ws.getD (k + 1) []).length + 24 = (mkL ++ (ws.getD (k + 1) [] ++ mkL)).length by rw [List.length_append, List.length_append, lm]; omega, List.take_left]
/-- a block that came whole: its stretch -/
theorem came_str {ws : List (List Nat)} {Q : List Nat} {x : Ar} (h : ∀ w ∈ ws, NoMk w) {k i : Nat} (hk : k + 1 < ws.length) (ok : OkR (blk ws ++ Q) x) (e : ((x.map Prod.snd).drop i).take ((ws.getD (k + 1) []).length + 24) = (List.range ((ws.getD (k + 1) []).length + 24)).map fun j => some ((endsL (blk ws ++ Q)).getD k 0 - 12 + j)) :
    ∃ s, (endsL (x.map Prod.fst))[s]? = some (i + 12) ∧ (endsL (x.map Prod.fst))[s + 1]? = some (i + 24 + (ws.getD (k + 1) []).length) ∧ (sttL (x.map Prod.fst))[s]? = some (ws.getD (k + 1) [] ++ mkL) ∧ (x.map Prod.snd)[i + 12 + (ws.getD (k + 1) []).length]? = some (some ((endsL (blk ws ++ Q)).getD (k + 1) 0 - 12)) ∧ (x.map Prod.snd)[i]? = some (some ((endsL (blk ws ++ Q)).getD k 0 - 12)) := by
  obtain ⟨_, s2, s3, s4⟩ := sent_at (Q := Q) h hk
  have at_ : ∀ j, j < (ws.getD (k + 1) []).length + 24 → (x.map Prod.snd)[i + j]? = some (some ((endsL (blk ws ++ Q)).getD k 0 - 12 + j)) := fun j hj => by
    have e1 : (((x.map Prod.snd).drop i).take ((ws.getD (k + 1) []).length + 24))[j]? = some (some ((endsL (blk ws ++ Q)).getD k 0 - 12 + j)) := by
      rw [e, List.getElem?_map, List.getElem?_range hj]
      rfl
    rw [List.getElem?_take_of_lt hj, List.getElem?_drop] at e1
    exact e1
  rcases came_bits ok e with ⟨cb, _⟩ | cb
  · rw [s4] at cb
    have p0 := at_ 0 (by omega)
    rw [Nat.add_zero, Nat.add_zero] at p0
    have pw := at_ (12 + (ws.getD (k + 1) []).length) (by omega)
    generalize hw : ws.getD (k + 1) [] = w' at *
    have li : i < x.length := by
      have := (List.getElem?_eq_some_iff.mp p0).1
      rw [List.length_map] at this
      exact this
    generalize hB : x.map Prod.fst = B at *
    have lB : B.length = x.length := by
      rw [← hB, List.length_map]
    have nm : NoMk w' := by
      rw [← hw, List.getD_eq_getElem?_getD, List.getElem?_eq_getElem hk]
      exact h _ (List.getElem_mem hk)
    have eB : B = B.take i ++ (mkL ++ (w' ++ (mkL ++ (B.drop i).drop (w'.length + 24)))) := by
      have h1 : B.drop i = (B.drop i).take (w'.length + 24) ++ (B.drop i).drop (w'.length + 24) := (List.take_append_drop _ _).symm
      have h2 : B = B.take i ++ B.drop i := (List.take_append_drop _ _).symm
      rw [cb] at h1
      simp only [List.append_assoc] at h1
      rw [← h1, List.take_append_drop]
    have lX : (B.take i).length = i := by
      rw [List.length_take]
      omega
    obtain ⟨s, q1, q2, q3⟩ := stt_inner (X := B.take i) (Y := (B.drop i).drop (w'.length + 24)) nm
    rw [← eB, lX] at q2
    rw [← eB] at q1 q3
    obtain ⟨_, _, r3, _, _⟩ := str_at q1
    have g0 : (endsL B).getD s 0 = i + 12 := by
      rw [List.getD_eq_getElem?_getD, q2]
      rfl
    have g1 : (sttL B).getD s [] = w' ++ mkL := by
      rw [List.getD_eq_getElem?_getD, q3]
      rfl
    rw [g0, g1, List.length_append] at r3
    have r3 : w'.length + 12 = (endsL B).getD (s + 1) 0 - (i + 12) := r3
    refine ⟨s, q2, ?_, q3, ?_, p0⟩
    · rw [List.getD_eq_getElem?_getD, List.getElem?_eq_getElem q1] at r3
      have r3 : w'.length + 12 = (endsL B)[s + 1] - (i + 12) := r3
      rw [List.getElem?_eq_getElem q1]
      congr 1
      omega
    · rw [show i + 12 + w'.length = i + (12 + w'.length) by omega, pw, s3]
      congr 2
      omega
  · omega
end Fp

set_option Elab.async false
set_option linter.all false
set_option maxRecDepth 100000
set_option maxHeartbeats 4000000
/-! Promises of defs that hold where nothing is being shown around the call (no guard stands): they may ask repr. The law is entered so. -/
namespace FpG
open PySem PySem.Spec PyProof.Rows L2 Fp
/-- a def's promise, no guard around it -/
structure FnG (P : Program) (w : World) (K : PySem.W.Frag) (mg : Str → Option Value) (base : Heap) (CX : CXT) (k : Nat) (f : Addr) (fd : FuncData) (ps : List Str) (sp : Sp) : Prop where
  many : ∀ vs H Q E, sp vs H Q E → vs.length = ps.length
  goes : ∀ (A : Around) (out : List Env) (s : Shared) (H : Hp) (args : Args) (us : List Value) (vs : List V) (Q : VK) (E : XK), A.guards = some [] → Room k A → Env0 P w K mg base A out s H → BindsTo s fd args (ps.zip us) → Vals vs us → sp vs H Q E →
    codeAny (model P w) A (.call (.ref f) args) (CR CX out P w H s Q E) s
section
variable {P : Program} {w : World} {K : PySem.W.Frag} {mg : Str → Option Value} {base : Heap} {CX : CXT} {k : Nat} {f : Addr} {fd : FuncData} {ps : List Str} {sp : Sp}
theorem FnG.of (F : FnOk P w K mg base CX k f fd ps sp) : FnG P w K mg base CX k f fd ps sp := ⟨F.len, fun A out s H args us vs Q E _ => F.run A out s H args us vs Q E⟩
theorem fnG_of {name qual : Str} {params : Arguments} {body : List Stmt} {scope : Scope} {dV kV doc pm cdv ct oc : Value} {an od : Option Addr} {osl : Array (Option Value)} {N : List Str}
    (at_ : K.lookup f = some ⟨oc, od, .func (PySem.W.fnOf name qual params body scope dV kV doc pm an cdv ct), osl⟩) (code : PySem.W.codeIn K cdv qual = true) (S : FnScope N ps scope) (many : ∀ vs H Q E, sp vs H Q E → vs.length = ps.length)
    (hb : ∀ (A : Around) (out : List Env) (s : Shared) (H : Hp) (vs : List V) (Q : VK) (E : XK), (A.deeper (envOfC qual scope s.heap.objs.size f cdv)).guards = some [] → Room k (A.deeper (envOfC qual scope s.heap.objs.size f cdv)) → sp vs H Q E →
      ∃ t, PSs (cxOf CX P w K mg base N qual scope f cdv A out s H E) body t ∧ t { nx := fun _ H' => Q .non H', rt := Q } (start N vs) H) :
    FnG P w K mg base CX (k + 1) f (PySem.W.fnOf name qual params body scope dV kV doc pm an cdv ct) ps sp := by
  refine ⟨many, fun A out s H args us vs Q E gd room env bind rel want => ?_⟩
  have kin : K.In s.heap := env.mod.kin.keeps fun c o e => (env.bs c o e).1
  have nolim : s.heap.NoLimit := env.mod.nolimit.keeps fun c o e => (env.bs c o e).1
  have kinds : ∀ y ∈ ps.zip us, scope.names.lookup y.1 = some .local ∨ (scope.names.lookup y.1 = some .cell ∧ ((cellsFrom (s.heap.objs.size + 1) scope.names []).lookup y.1).isSome = true) := by
    rintro ⟨n, v⟩ hy
    exact (S.par n (List.of_mem_zip hy).1).imp id fun c => ⟨c, PySem.W.cellsFrom_some _ _ _ (.inl c)⟩
  refine codeAny_call_function room.depth (kin _ _ at_) rfl S.co S.gen rfl (PySem.W.codeRec_of kin code) (bind _ _ _ _ ?_)
  refine wpAny_newFunctionEnv_cells S.kind kinds fun ev ee s1 ic => ?_
  subst ee
  refine ⟨nolim.keeps ic.toInCall.keep, codeAny_func ?_⟩
  obtain ⟨t, pt, qt⟩ := hb A out s H vs Q E gd (room.deeper _) want
  have inv := inv_start (CX := CX) (E := E) S room.hd env (many _ _ _ _ want) rel ic
  refine wpAny_mono (pt.run [] s1 (start N vs) H _ inv qt) (fun fl s' hs => ?_) fun e s' hs => hs
  cases fl with
  | ret u =>
    obtain ⟨v, σ', H', J, rv, q⟩ := hs
    exact ⟨v, H', J.os, J.bare, J.base, J.hok, rv, q⟩
  | next =>
    obtain ⟨σ', H', J, q⟩ := hs
    exact ⟨.non, H', J.os, J.bare, J.base, J.hok, rfl, q⟩
  | brk => exact hs.elim fun _ z => z.elim fun _ z => z.2.elim
  | cont => exact hs.elim fun _ z => z.elim fun _ z => z.2.elim
/-- from the def's place in the text -/
theorem okG {x qual : Str} {st : Stmt} {N : List Str} (F : Fun K x qual st f fd) (S : FnScope N ps (defScope st)) (many : ∀ vs H Q E, sp vs H Q E → vs.length = ps.length)
    (hb : ∀ (cdv : Value) (A : Around) (out : List Env) (s : Shared) (H : Hp) (vs : List V) (Q : VK) (E : XK), (A.deeper (envOfC qual (defScope st) s.heap.objs.size f cdv)).guards = some [] → Room k (A.deeper (envOfC qual (defScope st) s.heap.objs.size f cdv)) → sp vs H Q E →
      ∃ t, PSs (cxOf CX0 P w K mg base N qual (defScope st) f cdv A out s H E).nox (defBody st) t ∧ t { nx := fun _ H' => Q .non H', rt := Q } (start N vs) H) : FnG P w K mg base CX0 (k + 1) f fd ps sp := by
  obtain ⟨oc, od, kV, doc, pm, an, cdv, ct, osl, rfl, at_, code⟩ := F.ex
  refine fnG_of at_ code S many fun A out s H vs Q E gd room want => ?_
  obtain ⟨t, pt, qt⟩ := hb cdv A out s H vs Q E gd room want
  exact ⟨t, pt.nox, qt⟩
end
section
variable {X : Cx} {CX : CXT} {k : Nat} {f C : Addr} {fd : FuncData} {ps : List Str} {sp : Sp} {dvs : List V} {ds : List Value} {E : XK} {x m : Str} {p pos apos : Pos} {e o : Expr} {es : List Expr} {ta : TE} {t : TA}
theorem run_G {pins : List (Addr × Obj)} {σ : L2.St} {H : Hp} {s : Shared} {Q : VK} {us : List Value} {vs : List V} (F : FnG X.prog X.w X.K X.mg X.base CX k f fd ps sp) (gd : X.A.guards = some []) (room : Room k X.A) (bn : Binds X.K fd ps ds) (dv : Vals dvs ds) (ps_ : Passes CX X E)
    (I : Inv X pins σ H s) (r : Vals vs us) (want : sp (vs ++ dvs) H Q E) : wpAny (model X.prog X.w) X.A (call (.ref f) us) (EP X pins σ Q) X.xe s := by
  have rr : Vals (vs ++ dvs) (us ++ ds) := r.append dv
  have ln : (us ++ ds).length = ps.length := rr.length.symm.trans (F.many _ _ _ _ want)
  refine wpAny_call (codeAny_mono (F.goes X.A X.stack s H ⟨us, []⟩ (us ++ ds) (vs ++ dvs) Q E gd room I.env0 (bn s us I.kIn ln) rr want) fun res s' h => ?_)
  cases res with
  | error ex => exact ps_ pins σ H s ex s' I h
  | ok fl =>
    cases fl with
    | ret u => exact I.after h
    | next => exact h.elim
    | brk => exact h.elim
    | cont => exact h.elim
theorem pe_callG (F : FnG X.prog X.w X.K X.mg X.base CX k f fd ps sp) (gd : X.A.guards = some []) (room : Room k X.A) (gl : Gl X x) (at_ : X.mg x = some (.ref f)) (kp : PySem.W.keepIn X.K (.ref f) = true) (bn : Binds X.K fd ps ds) (dv : Vals dvs ds) (ps_ : Passes CX X E)
    (ha : PA X (e :: es) t) (nd : (x == ("__debug__" : Str)) = false := by decide) (ee : starEach (e :: es) X.env = (false, eval e X.env) :: starEach es X.env := by rfl) (pl : (backTo pos (starEach es X.env)).any (·.1) = false := by rfl) :
    PE X (.Call (.Name x p) (e :: es) [] pos) (tCall sp dvs E t) := by
  refine ⟨fun pins s σ H Q I want => ?_⟩
  refine wpAny_Call_Name_kw (ld_glob I gl at_ ?_ nd)
  exact PySem.W.callWith_K (h₀ := X.base) I.ok.mod.kin kp (thn (ha.run pos pins s σ H _ I want) fun us s1 ⟨vs, H1, I1, r, q⟩ => ⟨I1.kIn, run_G F gd room bn dv ps_ I1 r q⟩) ee pl
theorem pe_callG0 (F : FnG X.prog X.w X.K X.mg X.base CX k f fd ps sp) (gd : X.A.guards = some []) (room : Room k X.A) (gl : Gl X x) (at_ : X.mg x = some (.ref f)) (kp : PySem.W.keepIn X.K (.ref f) = true) (bn : Binds X.K fd ps ds) (dv : Vals dvs ds) (ps_ : Passes CX X E)
    (nd : (x == ("__debug__" : Str)) = false := by decide) : PE X (.Call (.Name x p) [] [] pos) (tCall sp dvs E tNil) :=
  ⟨fun pins s σ H Q I want => wpAny_Call_Name_kw (ld_glob I gl at_ (PySem.W.callWith_K0 I.kIn kp (run_G (us := []) F gd room bn dv ps_ I .nil want)) nd)⟩
/-- repr of data -/
def rRepr (K : PySem.W.Frag) : List V → Hp → VK → Prop := fun xs H Q => ∃ (x : V) (d : PyData), xs = [x] ∧ Dp K H x d ∧ d.showable = true ∧ PyData.canLay0 d = true ∧ d.depth ≤ 50 ∧ d.shown.length ≤ sizeLine ∧ Q (.str d.shown) H
theorem call_reprD (gd : X.A.guards = some []) (room : Room k X.A) : CallR X (.builtin "repr") (rRepr X.K) := by
  intro pins s σ H xs us Q I r h
  obtain ⟨x, d, rfl, dp, sh, lay, dep, len, q⟩ := h
  obtain ⟨u, rfl, rx⟩ := vals1 r
  obtain ⟨as, rd⟩ := Dp.reads I d x u dp rx
  have un := room.units
  cases rd with
  | none => exact PySem.P.repr_of_none ⟨.str (PyData.shown .none), H, I.tok _, ⟨_, rfl⟩, q⟩
  | bool b => exact PySem.P.repr_of_bool ⟨.str (PyData.shown (.bool b)), H, I.tok _, ⟨_, by cases b <;> rfl⟩, q⟩
  | int i t => exact PySem.P.repr_of_int (by simpa [PyData.showable] using sh) ⟨.str (PyData.shown (.int i)), H, I.tok _, ⟨_, rfl⟩, q⟩
  | str z t => exact PySem.P.repr_of_str ⟨.str (PyData.shown (.str z)), H, I.tok _, ⟨_, rfl⟩, q⟩ len
  | list h1 h2 h3 h4 => exact PySem.repr_of_reads' (.list h1 h2 h3 h4) sh (PyData.noDict_hsm (PyData.hasDict_of_canLay _ lay)) gd (by omega) (fun _ _ e => e) (fun h' u tk hk => ⟨.str _, H, I.kept hk, ⟨u, rfl⟩, q⟩) len
  | tuple h1 h2 h3 h4 => exact PySem.repr_of_reads' (.tuple h1 h2 h3 h4) sh (PyData.noDict_hsm (PyData.hasDict_of_canLay _ lay)) gd (by omega) (fun _ _ e => e) (fun h' u tk hk => ⟨.str _, H, I.kept hk, ⟨u, rfl⟩, q⟩) len
  | dict h1 h2 h3 h4 h5 => simp [PyData.canLay0] at lay
end
end FpG

set_option Elab.async false
set_option linter.all false
set_option maxRecDepth 100000
set_option maxHeartbeats 4000000
/-! The law entered with no guard around it, tables of code objects beside. -/
namespace FpG
open PySem PySem.Spec PyProof.Rows L2 Fp LamX
/-- what is tracked at the law's call: the tables, and the script where it isn't the module's own -/
def begH (K : PySem.W.Frag) (a : Addr) (vs : List Value) (ns : List Int) (T : List Addr) : Hp := fun b =>
  if b ∈ T then some (.tbl #[]) else if b = a ∧ K.lookup a = none then some (.frz { cls := .type "list", data := .seq vs.toArray } (.lst (ns.map V.int))) else none
section
variable {K : PySem.W.Frag} {a : Addr} {vs : List Value} {ns : List Int} {T : List Addr}
theorem begH_T {b : Addr} (h : b ∈ T) : begH K a vs ns T b = some (.tbl #[]) := if_pos h
theorem begH_a (h : a ∉ T) (n : K.lookup a = none) : begH K a vs ns T a = some (.frz { cls := .type "list", data := .seq vs.toArray } (.lst (ns.map V.int))) := by
  unfold begH
  rw [if_neg h, if_pos ⟨rfl, n⟩]
theorem begH_cases (b : Addr) : (b ∈ T ∧ begH K a vs ns T b = some (.tbl #[])) ∨ (b ∉ T ∧ b = a ∧ K.lookup a = none ∧ begH K a vs ns T b = some (.frz { cls := .type "list", data := .seq vs.toArray } (.lst (ns.map V.int)))) ∨ begH K a vs ns T b = none := by
  unfold begH
  by_cases h : b ∈ T
  · exact .inl ⟨h, if_pos h⟩
  · by_cases h2 : b = a ∧ K.lookup a = none
    · exact .inr (.inl ⟨h, h2.1, h2.2, by rw [if_neg h, if_pos h2]⟩)
    · exact .inr (.inr (by rw [if_neg h, if_neg h2]))
end
theorem law_G {P : Program} {w : World} {K : PySem.W.Frag} {mg mb : Str → Option Value} {CX : CXT} {k : Nat} {fa a : Addr} {cs : List (Addr × Addr)} {fd : FuncData} {x : Str} {sp : Sp} {s : Shared} {vs : List Value} {ns : List Int}
    (kin : K.In s.heap) (gns : s.heap.Ns mainGlobals mg) (bns : s.heap.Ns builtinsNs mb) (bok : ∀ y : Str, y ≠ "__name__" → mb y = bootBuiltins y) (nolim : s.heap.NoLimit) (ng : s.gens = #[])
    (tabs : ∀ c ∈ cs, s.heap.get? c.2 = some { cls := .none, data := .fields #[] }) (tabsK : ∀ c ∈ cs, K.lookup c.2 = none) (heads : ∀ c ∈ cs, PySem.W.CodeHd s.heap c.1 c.2)
    (bm : ∃ (m : Addr) (ob : Obj), mg "__builtins__" = some (.ref m) ∧ m ≠ builtinsNs ∧ s.heap.get? m = some ob ∧ ob.cls = .type "module" ∧ ob.dict = some builtinsNs ∧ ob.data = .plain)
    (scr : s.heap.get? a = some { cls := .type "list", data := .seq vs.toArray }) (nums : IntsAre vs ns) (few : ns.length ≤ sizeLine) (room : Room k callerA)
    (F : ∀ base : Heap, K.In base → base.Ns mainGlobals mg → (∀ c ∈ cs, TabB base mg c.1 c.2) → FnG P w K mg base CX k fa fd [x] sp) (bind : ∀ (s : Shared) (u : Value), BindsTo s fd ⟨[u], []⟩ [(x, u)])
    (want : ∀ H : Hp, (∀ c ∈ cs, H c.2 = some (.tbl #[])) → SqL K H a (ns.map V.int) → sp [.ref a] H (fun v _ => v = .bl true) fun _ _ _ => False) (noX : ∀ H e s', CX [] H s (fun _ _ _ => False) e s' → False) :
    codeAny (model P w) callerA (.call (.ref fa) ⟨[.ref a], []⟩) (fun r s' => r = .ok (.ret (.bool true)) ∧ OldK s.heap s'.heap ∧ s'.os = s.os ∧ AllBare s'.gens) s := by
  have rel := vals_ints nums
  have lenV := nums.length
  generalize hT : cs.map Prod.snd = T
  have tabT : ∀ b ∈ T, s.heap.get? b = some { cls := .none, data := .fields #[] } := fun b hb => by
    rw [← hT] at hb
    obtain ⟨c, hc, rfl⟩ := List.mem_map.mp hb
    exact tabs c hc
  have kT : ∀ b ∈ T, K.lookup b = none := fun b hb => by
    rw [← hT] at hb
    obtain ⟨c, hc, rfl⟩ := List.mem_map.mp hb
    exact tabsK c hc
  have inT : ∀ c ∈ cs, c.2 ∈ T := fun c hc => by
    rw [← hT]
    exact List.mem_map.mpr ⟨c, hc, rfl⟩
  have aT : a ∉ T := fun z => by
    have z := (tabT a z).symm.trans scr
    have z : Data.fields #[] = Data.seq vs.toArray _ := congrArg Obj.data (Option.some.inj z)
    cases z
  have small : (ns.map V.int).length ≤ sizeLine := by
    rw [List.length_map]
    exact few
  generalize hB : begH K a vs ns T = H
  have cas : ∀ b, (b ∈ T ∧ H b = some (.tbl #[])) ∨ (b ∉ T ∧ b = a ∧ K.lookup a = none ∧ H b = some (.frz { cls := .type "list", data := .seq vs.toArray } (.lst (ns.map V.int)))) ∨ H b = none := fun b => by
    rw [← hB]
    exact begH_cases b
  have hok : HOk P w H s.heap := fun b o e => by
    rcases cas b with ⟨h1, h2⟩ | ⟨h1, h2, h3, h4⟩ | h1
    · rw [h2] at e
      cases e
      exact tabT b h1
    · rw [h4] at e
      cases e
      subst h2
      exact ⟨scr, small, vs, _, rel, scr⟩
    · rw [h1] at e
      cases e
  have sq : SqL K H a (ns.map V.int) := by
    cases z : K.lookup a with
    | some o =>
      have e := (kin a o z).symm.trans scr
      cases e
      exact .inr ⟨_, vs.toArray, _, z, rfl, rfl, rfl, by rw [List.size_toArray, lenV]; exact few, by simpa using rel⟩
    | none =>
      refine .inl (.inr ⟨{ cls := .type "list", data := .seq vs.toArray }, ?_⟩)
      rw [← hB]
      exact begH_a aT z
  -- what is no list and no table isn't tracked
  have free : ∀ {b : Addr} {o : Obj}, s.heap.get? b = some o → (∀ us n, o.data ≠ .seq us n) → o.data ≠ .fields #[] → H b = none := fun {b o} e n1 n2 => by
    rcases cas b with ⟨h1, _⟩ | ⟨_, h2, _, _⟩ | h1
    · rw [tabT b h1] at e
      cases e
      exact (n2 rfl).elim
    · subst h2
      rw [scr] at e
      cases e
      exact (n1 _ _ rfl).elim
    · exact h1
  have freeD : ∀ {b : Addr} {o : Obj} {es : Array DictEntry} {ep : Nat}, s.heap.get? b = some o → o.data = .dict es ep → H b = none := fun {b o es ep} e d => free e (fun us n z => by rw [d] at z; cases z) fun z => by
    rw [d] at z
    cases z
  have freeK : ∀ b o, K.lookup b = some o → H b = none := fun b o e => by
    rcases cas b with ⟨h1, _⟩ | ⟨_, h2, h3, _⟩ | h1
    · rw [kT b h1] at e
      cases e
    · subst h2
      rw [h3] at e
      cases e
    · exact h1
  have nsB : ∀ {b : Addr} {m : Str → Option Value}, s.heap.Ns b m → (hidT s.heap H).Ns b m := by
    rintro b m ⟨o, es, ep, e, d, rest⟩
    exact ⟨o, es, ep, hidT_get e (freeD e d), d, rest⟩
  have kinB : K.In (hidT s.heap H) := fun b o e => hidT_get (kin b o e) (freeK b o e)
  have md : L2.Mod K mg (hidT s.heap H) := by
    obtain ⟨mc, l1, l2⟩ := nolim
    exact ⟨kinB, nsB gns, ⟨mb, nsB bns, bok⟩, ⟨mc, nsB l1, l2⟩⟩
  have tb : ∀ c ∈ cs, TabB (hidT s.heap H) mg c.1 c.2 := fun c hc => by
    have tc := tabs c hc
    refine ⟨?_, ?_, fun z => ?_⟩
    · obtain ⟨o, us, fi, tf, fl, tg, inF, tx, tt, e1, r1, r2, r3, r4, r5, r6, r7, r8, ne⟩ := heads c hc
      refine ⟨o, us, fi, tf, fl, tg, inF, tx, tt, hidT_get e1 (free e1 (fun vs n z => ?_) fun z => ?_), r1, r2, r3, r4, r5, r6, r7, r8, ne⟩
      · rw [r2] at z
        cases z
      · rw [r2] at z
        cases z
        simp at r3
    · obtain ⟨m, ob, b1, b2, b3, b4, b5, b6⟩ := bm
      refine ⟨m, ob, b1, b2, fun z => ?_, fun z => ?_, hidT_get b3 (free b3 (fun us n z => by rw [b6] at z; cases z) fun z => by rw [b6] at z; cases z), b4, b5, b6⟩
      · obtain ⟨o, es, ep, e, d, _⟩ := gns
        rw [z, e] at b3
        cases b3
        rw [d] at b6
        cases b6
      · rw [z, tc] at b3
        cases b3
        cases b6
    · obtain ⟨o, es, ep, e, d, _⟩ := gns
      rw [z, tc] at e
      cases e
      cases d
  have env : Env0 P w K mg (hidT s.heap H) callerA [] s H := by
    refine ⟨rfl, md, fun b o e => of_hidT e, Nat.le_of_eq (hidT_size _ _), trivial, fun b hb => ?_, hok, .of_eq ng⟩
    have hb : b ∈ ([] : List Addr) := hb
    cases hb
  refine codeAny_mono ((F _ kinB (nsB gns) tb).goes callerA [] s H ⟨[.ref a], []⟩ [.ref a] [.ref a] _ _ rfl room env (bind s (.ref a)) (.cons rfl .nil) (want H (fun c hc => by rw [← hB]; exact begH_T (inT c hc)) sq)) fun r s' h => ?_
  cases r with
  | error e => exact (noX H e s' h).elim
  | ok fl =>
    cases fl with
    | next => exact h.elim
    | brk => exact h.elim
    | cont => exact h.elim
    | ret u =>
      obtain ⟨v, H', os, bare, un, hok', rv, rfl⟩ := h
      obtain rfl : u = Value.bool true := rv
      have stays : ∀ b o, b ∉ T → s.heap.get? b = some o → s'.heap.get? b = some o := fun b o nb e => by
        rcases cas b with ⟨h1, _⟩ | ⟨_, h2, _, h4⟩ | h1
        · exact absurd h1 nb
        · obtain ⟨g1, _⟩ := hok b _ h4
          obtain ⟨g2, _⟩ := hok' b _ (un.frzs b _ _ h4)
          exact (e.symm.trans g1) ▸ g2
        · exact un.keep b o e h1 (fun z => by have z : b ∈ ([] : List Addr) := z; cases z) (by simp)
      have grows : ∀ b ∈ T, ∃ more : Array Value, s'.heap.get? b = some { cls := .none, data := .fields more } := fun b hb => by
        obtain ⟨more, z⟩ := un.tbls b #[] (by rw [← hB]; exact begH_T hb)
        exact ⟨_, hok' b _ z⟩
      refine ⟨rfl, ⟨fun b o e => ?_, fun b o e => ?_⟩, os, bare⟩
      · by_cases hb : b ∈ T
        · have hb' := hb
          rw [← hT] at hb'
          obtain ⟨c, hc, rfl⟩ := List.mem_map.mp hb'
          obtain ⟨more, hm⟩ := grows _ hb
          rw [tabs c hc] at e
          cases e
          exact .inr (.inl ⟨((heads c hc).tab (tabs c hc)).isCodeTable, rfl, #[], more, rfl, by rw [Array.empty_append]; exact hm⟩)
        · exact .inl (stays b o hb e)
      · by_cases hb : b ∈ T
        · obtain ⟨more, hm⟩ := grows b hb
          exact ⟨_, hm⟩
        · exact ⟨o, stays b o hb e⟩
/-- what the law promises, no guard around it -/
def LawG (l : PySem.W.OpenLaw) (w : World) (K : PySem.W.Frag) (CX : CXT) (k n : Nat) (x : Str) (mg : Str → Option Value) (fa : Addr) (h : Heap) : Prop :=
  ∃ (fd : FuncData) (cs : List (Addr × Addr)) (sp : Sp), ((∀ c ∈ cs, h.get? c.2 = some { cls := .none, data := .fields #[] }) ∧ (∀ c ∈ cs, K.lookup c.2 = none) ∧ ∀ c ∈ cs, PySem.W.CodeHd h c.1 c.2) ∧ (∀ (s : Shared) (u : Value), BindsTo s fd ⟨[u], []⟩ [(x, u)]) ∧
    (∀ (H : Hp) (a : Addr) (ns : List Int), ns.length ≤ n → (∀ c ∈ cs, H c.2 = some (.tbl #[])) → SqL K H a (ns.map V.int) → sp [.ref a] H (fun v _ => v = .bl true) fun _ _ _ => False) ∧
    ∀ base : Heap, K.In base → base.Ns mainGlobals mg → (∀ c ∈ cs, TabB base mg c.1 c.2) → FnG l.prog w K mg base CX k fa fd [x] sp
theorem walk_G {l : PySem.W.OpenLaw} {n k : Nat} {q : Program} {loose : List Str} {XP : (Str → Option Value) → Heap → Prop} {YP : World → Heap → Prop} {d : DefRec} {K : Params → PySem.W.Frag} {CX : World → CXT} {x : Str}
    (most : l.most = some n) (small : n ≤ sizeLine) (nodef : d.params.defaults = []) (room : Room k callerA) (frag : ∀ (w : World) (h : Heap), YP w h → (K w.params).In h)
    (F : ∀ (w : World) (mg : Str → Option Value) (fa : Addr) (h : Heap), YP w h → (K w.params).In h → h.Ns mainGlobals mg → mg d.name = some (.ref fa) → LawG l w (K w.params) (CX w) k n x mg fa h)
    (noX : ∀ (w : World) (H : Hp) (s : Shared) (e : Value) (s' : Shared), CX w [] H s (fun _ _ _ => False) e s' → False) : PySem.W.WalkO q loose XP YP l.row.toRowW d [] (fun f vs => PySem.call f vs) := by
  refine Att.attach_callB most nodef fun w s0 s mg mb fa o pm cd doc a vs ns G Y _ _ _ atL scr nums len _ ng => ?_
  obtain ⟨fd, cs, sp, ⟨t1, t2, t3⟩, bind, want, go⟩ := F w mg fa _ Y (frag w _ Y) G.T.g atL
  exact law_G (frag w _ Y) G.T.g G.T.b G.T.builtins G.T.nolimit ng t1 t2 t3 G.T.bmain scr nums (Nat.le_trans len small) room go bind (fun H h1 h2 => want H a ns len h1 h2) fun H e s' => noX w H s e s'
end FpG

set_option Elab.async false
set_option linter.all false
set_option maxRecDepth 100000
set_option maxHeartbeats 4000000
/-! What repr shows of data, and how long it is; pieces gathered (for k35, k36). -/
namespace Fp
open PySem L2 PyProof.Rows
/-! ### what is shown -/
def ShOk (d : PyData) (n : Nat) : Prop := d.showable = true ∧ d.shown.length ≤ n
theorem ShOk.mono {d : PyData} {n m : Nat} (h : ShOk d n) (l : n ≤ m) : ShOk d m := ⟨h.1, Nat.le_trans h.2 l⟩
theorem ShOk.none : ShOk .none 4 := ⟨by simp only [PyData.showable], by decide⟩
theorem ShOk.bool (b : Bool) : ShOk (.bool b) 5 := ⟨by simp only [PyData.showable], by cases b <;> decide⟩
theorem small_show : ∀ n : Nat, n < 128 → (decide ((n : Int).natAbs.log2 < 1920) = true) ∧ (PyData.shown (.int (n : Int))).length ≤ 4 := by decide +kernel
theorem ShOk.nat {n : Nat} (h : n < 128) : ShOk (.int (n : Int)) 4 := ⟨by simp only [PyData.showable]; exact (small_show n h).1, (small_show n h).2⟩
theorem ShOk.str {l : List Nat} (h : Codes l) : ShOk (.str (sOf l)) (10 * l.length + 2) := by
  refine ⟨by simp only [PyData.showable], ?_⟩
  have := StrLaws.reprText_len (sOf l) (fun c hc => by
    rw [sOf_list] at hc
    have := h c hc
    omega)
  rw [sOf_len] at this
  simp only [PyData.shown]
  exact this
theorem shown_sum {α : Type} (f : α → PyData) (n : Nat) : ∀ {xs : List α}, (∀ x ∈ xs, ShOk (f x) n) → PyData.showableAll (xs.map f) = true ∧ ((PyData.shownAll (xs.map f)).map (·.length)).sum ≤ n * xs.length ∧ (PyData.shownAll (xs.map f)).length = xs.length
  | [], _ => ⟨by simp only [List.map_nil, PyData.showableAll], by simp [PyData.shownAll], by simp [PyData.shownAll]⟩
  | x :: xs, h => by
    obtain ⟨h1, h2, h3⟩ := shown_sum f n (xs := xs) fun y hy => h y (List.mem_cons_of_mem _ hy)
    obtain ⟨g1, g2⟩ := h x (List.mem_cons_self ..)
    refine ⟨by simp only [List.map_cons, PyData.showableAll, g1, h1, Bool.and_true], ?_, ?_⟩
    · simp only [List.map_cons, PyData.shownAll, List.sum_cons, List.length_cons]
      rw [Nat.mul_succ]
      omega
    · simp only [List.map_cons, PyData.shownAll, List.length_cons, h3]
theorem ShOk.list {α : Type} {f : α → PyData} {n : Nat} {xs : List α} (h : ∀ x ∈ xs, ShOk (f x) n) : ShOk (.list (xs.map f)) (n * xs.length + 2 * xs.length + 3) := by
  obtain ⟨h1, h2, h3⟩ := shown_sum f n h
  refine ⟨by simp only [PyData.showable]; exact h1, ?_⟩
  have := listText_len_le (PyData.shownAll (xs.map f))
  simp only [PyData.shown]
  omega
theorem ShOk.tuple {α : Type} {f : α → PyData} {n : Nat} {xs : List α} (h : ∀ x ∈ xs, ShOk (f x) n) : ShOk (.tuple (xs.map f)) (n * xs.length + 2 * xs.length + 3) := by
  obtain ⟨h1, h2, h3⟩ := shown_sum f n h
  refine ⟨by simp only [PyData.showable]; exact h1, ?_⟩
  have := tupleText_len_le (PyData.shownAll (xs.map f))
  simp only [PyData.shown]
  omega
/-- a tuple of a few parts -/
def ShAll (ds : List PyData) (n : Nat) : Prop := PyData.showableAll ds = true ∧ ((PyData.shownAll ds).map (·.length)).sum ≤ n ∧ (PyData.shownAll ds).length = ds.length
theorem ShAll.nil : ShAll [] 0 := ⟨by simp only [PyData.showableAll], by simp [PyData.shownAll], by simp [PyData.shownAll]⟩
theorem ShAll.cons {d : PyData} {ds : List PyData} {n m : Nat} (h : ShOk d n) (k : ShAll ds m) : ShAll (d :: ds) (n + m) := by
  obtain ⟨h1, h2⟩ := h
  obtain ⟨k1, k2, k3⟩ := k
  refine ⟨by simp only [PyData.showableAll, h1, k1, Bool.and_true], ?_, by simp only [PyData.shownAll, List.length_cons, k3]⟩
  simp only [PyData.shownAll, List.map_cons, List.sum_cons]
  omega
theorem ShAll.tup {ds : List PyData} {n : Nat} (k : ShAll ds n) : ShOk (.tuple ds) (n + 2 * ds.length + 3) := by
  obtain ⟨k1, k2, k3⟩ := k
  refine ⟨by simp only [PyData.showable]; exact k1, ?_⟩
  have := tupleText_len_le (PyData.shownAll ds)
  simp only [PyData.shown]
  omega
/-! ### fields -/
theorem pe_fldK {X : Cx} {K : PySem.W.Frag} (hK : X.K = K) {e : Expr} {f : Str} {pos : Pos} {ta : TE} (he : PE X e ta) (hb : attributeBase e f X.env (eval e X.env) = eval e X.env) : PE X (.Attribute e f pos) (tFld K ta f) := by
  subst hK
  exact pe_fld he hb
theorem lk0 {a : Str} {v : V} {r : List (Str × V)} : List.lookup a ((a, v) :: r) = some v := by simp [List.lookup]
theorem lkS {a b : Str} {v : V} {r : List (Str × V)} (h : (a == b) = false) : List.lookup a ((b, v) :: r) = List.lookup a r := by
  rw [List.lookup, h]
theorem putF_hit {f : Str} {v x : V} {r : List (Str × V)} : putF f v ((f, x) :: r) = (f, v) :: r := by
  unfold putF
  rw [if_pos rfl]
theorem putF_miss {f g : Str} {v x : V} {r : List (Str × V)} (h : ¬ g = f) : putF f v ((g, x) :: r) = (g, x) :: putF f v r := by
  rw [putF, if_neg h]
theorem putF_nil {f : Str} {v : V} : putF f v [] = [(f, v)] := rfl
/-! ### places, each once -/
theorem pigeon : ∀ (m : Nat) (l : List Nat), l.Nodup → (∀ x ∈ l, x < m) → l.length ≤ m ∧ (l.length = m → ∀ n, n < m → n ∈ l)
  | 0, l, _, h => by
    cases l with
    | nil => exact ⟨Nat.le_refl _, fun _ n hn => absurd hn (Nat.not_lt_zero _)⟩
    | cons x r => exact absurd (h x (List.mem_cons_self ..)) (Nat.not_lt_zero _)
  | m + 1, l, nd, h => by
    by_cases hm : m ∈ l
    · have nd' : (l.erase m).Nodup := nd.erase m
      have h' : ∀ x ∈ l.erase m, x < m := fun x hx => by
        have h1 := h x (List.mem_of_mem_erase hx)
        have h2 : x ≠ m := (nd.mem_erase_iff.mp hx).1
        omega
      obtain ⟨i1, i2⟩ := pigeon m (l.erase m) nd' h'
      have le := List.length_erase_of_mem hm
      have pos : 0 < l.length := List.length_pos_of_mem hm
      refine ⟨by omega, fun e n hn => ?_⟩
      by_cases z : n = m
      · rw [z]
        exact hm
      · exact List.mem_of_mem_erase (i2 (by omega) n (by omega))
    · have h' : ∀ x ∈ l, x < m := fun x hx => by
        have h1 := h x hx
        have h2 : x ≠ m := fun z => hm (z ▸ hx)
        omega
      obtain ⟨i1, _⟩ := pigeon m l nd h'
      exact ⟨by omega, fun e => by omega⟩
theorem pigeon2 : ∀ (m : Nat) (l : List Nat), l.Nodup → (∀ n, n < m → n ∈ l) → m ≤ l.length
  | 0, _, _, _ => Nat.zero_le _
  | m + 1, l, nd, h => by
    have hm := h m (by omega)
    have := pigeon2 m (l.erase m) (nd.erase m) fun n hn => nd.mem_erase_iff.mpr ⟨by omega, h n (by omega)⟩
    have le := List.length_erase_of_mem hm
    have pos : 0 < l.length := List.length_pos_of_mem hm
    omega
/-! ### pieces by their numbers -/
abbrev Pc := List (Nat × List Nat)
def pcK (ks : Pc) : List (Key × V) := ks.map fun x => (.inl (x.1 : Int), .str (sOf x.2))
def pcGet (ks : Pc) (n : Nat) : Option (List Nat) := (ks.find? fun x => decide (x.1 = n)).map (·.2)
theorem pcK_val (ks : Pc) (n : Nat) : valV (pcK ks) (.inl (n : Int)) = (pcGet ks n).map fun b => V.str (sOf b) := by
  induction ks with
  | nil => rfl
  | cons x r ih =>
    by_cases e : x.1 = n
    · have e1 : valV (pcK (x :: r)) (.inl (n : Int)) = some (.str (sOf x.2)) := valV_pos (by show (Sum.inl (x.1 : Int) : Key) = Sum.inl (n : Int); rw [e])
      have e2 : pcGet (x :: r) n = some x.2 := by
        unfold pcGet
        rw [List.find?_cons_of_pos (by simpa using e)]
        rfl
      rw [e1, e2]
      rfl
    · have e1 : valV (pcK (x :: r)) (.inl (n : Int)) = valV (pcK r) (.inl (n : Int)) := valV_neg (fun z => e (Int.ofNat.inj (Sum.inl.inj z)))
      have e2 : pcGet (x :: r) n = pcGet r n := by
        unfold pcGet
        rw [List.find?_cons_of_neg (by simpa using e)]
      rw [e1, e2, ih]
def putP (ks : Pc) (n : Nat) (b : List Nat) : Pc := if (pcGet ks n).isNone = true then ks ++ [(n, b)] else ks
theorem pcK_put {ks : Pc} {n : Nat} (b : List Nat) (h : pcGet ks n = none) : putK (pcK ks) (.inl (n : Int)) (.str (sOf b)) = pcK (ks ++ [(n, b)]) := by
  rw [putK_new _ (by rw [pcK_val, h]; rfl)]
  unfold pcK
  rw [List.map_append]
  rfl
theorem pcGet_none {ks : Pc} {n : Nat} : pcGet ks n = none ↔ n ∉ ks.map Prod.fst := by
  unfold pcGet
  rw [Option.map_eq_none_iff, List.find?_eq_none]
  constructor
  · intro h z
    obtain ⟨x, hx, e⟩ := List.mem_map.mp z
    exact absurd (decide_eq_true e) (h x hx)
  · intro h x hx z
    exact h (List.mem_map.mpr ⟨x, hx, of_decide_eq_true z⟩)
def PcOk (m : Nat) (ks : Pc) : Prop := (ks.map Prod.fst).Nodup ∧ ∀ x ∈ ks, x.1 < m ∧ Bts x.2 ∧ x.2.length ≤ 100
theorem PcOk.nil (m : Nat) : PcOk m [] := ⟨List.nodup_nil, fun _ h => nomatch h⟩
theorem PcOk.put {m n : Nat} {ks : Pc} {b : List Nat} (h : PcOk m ks) (hn : n < m) (hb : Bts b) (lb : b.length ≤ 100) : PcOk m (putP ks n b) := by
  unfold putP
  split
  · rename_i z
    have z := Option.isNone_iff_eq_none.mp z
    refine ⟨?_, fun x hx => ?_⟩
    · rw [List.map_append, List.map_cons, List.map_nil]
      refine List.nodup_append.mpr ⟨h.1, ?_, fun a ha c hc => ?_⟩
      · exact List.nodup_cons.mpr ⟨(fun y => nomatch y), List.nodup_nil⟩
      · rw [List.mem_singleton.mp hc]
        intro e
        have e : a = n := e
        rw [e] at ha
        exact pcGet_none.mp z ha
    · rcases List.mem_append.mp hx with y | y
      · exact h.2 x y
      · rw [List.mem_singleton.mp y]
        exact ⟨hn, hb, lb⟩
  · exact h
theorem PcOk.len {m : Nat} {ks : Pc} (h : PcOk m ks) : ks.length ≤ m := by
  have := (pigeon m (ks.map Prod.fst) h.1 fun x hx => by
    obtain ⟨y, hy, rfl⟩ := List.mem_map.mp hx
    exact (h.2 y hy).1).1
  rw [List.length_map] at this
  exact this
def lackL (m : Nat) (ks : Pc) : List Nat := (List.range m).filter fun n => (pcGet ks n).isNone
def joinL (m : Nat) (ks : Pc) : List Nat := ((List.range m).map fun n => (pcGet ks n).getD []).flatten
theorem lack_nil {m : Nat} {ks : Pc} : lackL m ks = [] ↔ ∀ n, n < m → n ∈ ks.map Prod.fst := by
  unfold lackL
  rw [List.filter_eq_nil_iff]
  constructor
  · intro h n hn
    have := h n (List.mem_range.mpr hn)
    by_cases z : n ∈ ks.map Prod.fst
    · exact z
    · exact absurd (by rw [pcGet_none.mpr z]; rfl) this
  · intro h n hn z
    exact pcGet_none.mp (Option.isNone_iff_eq_none.mp z) (h n (List.mem_range.mp hn))
theorem full_iff {m : Nat} {ks : Pc} (h : PcOk m ks) : ks.length < m ↔ lackL m ks ≠ [] := by
  have pg := pigeon m (ks.map Prod.fst) h.1 fun x hx => by
    obtain ⟨y, hy, rfl⟩ := List.mem_map.mp hx
    exact (h.2 y hy).1
  rw [List.length_map] at pg
  constructor
  · intro lt z
    have := pigeon2 m (ks.map Prod.fst) h.1 (lack_nil.mp z)
    rw [List.length_map] at this
    omega
  · intro ne
    by_cases z : ks.length < m
    · exact z
    · exact absurd (lack_nil.mpr (pg.2 (by omega))) ne
theorem lack_lt {m n : Nat} {ks : Pc} (h : n ∈ lackL m ks) : n < m := List.mem_range.mp (List.mem_filter.mp h).1
theorem lack_len (m : Nat) (ks : Pc) : (lackL m ks).length ≤ m := by
  have := List.length_filter_le (fun n => (pcGet ks n).isNone) (List.range m)
  rw [List.length_range] at this
  exact this
theorem get_ok {m n : Nat} {ks : Pc} {b : List Nat} (h : PcOk m ks) (e : pcGet ks n = some b) : Bts b ∧ b.length ≤ 100 := by
  unfold pcGet at e
  cases z : ks.find? fun x => decide (x.1 = n) with
  | none =>
    rw [z] at e
    cases e
  | some x =>
    rw [z] at e
    have e : x.2 = b := Option.some.inj e
    have := h.2 x (List.mem_of_find?_eq_some z)
    rw [← e]
    exact this.2
theorem join_ok {m : Nat} {ks : Pc} (h : PcOk m ks) : Bts (joinL m ks) ∧ (joinL m ks).length ≤ 100 * m := by
  have one : ∀ n, Bts ((pcGet ks n).getD []) ∧ ((pcGet ks n).getD []).length ≤ 100 := fun n => by
    cases e : pcGet ks n with
    | none => exact ⟨Bts.nil, Nat.zero_le _⟩
    | some b => exact get_ok h e
  have all : ∀ k, Bts (((List.range k).map fun n => (pcGet ks n).getD []).flatten) ∧ (((List.range k).map fun n => (pcGet ks n).getD []).flatten).length ≤ 100 * k := by
    intro k
    induction k with
    | zero => exact ⟨Bts.nil, Nat.le_refl _⟩
    | succ k ih =>
      rw [List.range_succ, List.map_append, List.flatten_append]
      show Bts (_ ++ ([(pcGet ks k).getD []] : List (List Nat)).flatten) ∧ (_ ++ ([(pcGet ks k).getD []] : List (List Nat)).flatten).length ≤ _
      rw [List.flatten_cons, List.flatten_nil, List.append_nil, List.length_append]
      have := (one k).2
      exact ⟨ih.1.app (one k).1, by omega⟩
  exact all m
/-! ### a gathering in the heap -/
def gatF (m : Nat) (d : Addr) : List (Str × V) := [(Str.ofString "many", .int (m : Int)), (Str.ofString "pieces", .ref d)]
def GatAt (C : Addr) (H : Hp) (p d : Addr) (m : Nat) (ks : Pc) : Prop := (∃ dx, H p = some (.ins C dx (gatF m d))) ∧ H d = some (.dK (pcK ks))
theorem gat_many (m : Nat) (d : Addr) : (gatF m d).lookup (Str.ofString "many") = some (.int (m : Int)) := lk0
theorem gat_pieces (m : Nat) (d : Addr) : (gatF m d).lookup (Str.ofString "pieces") = some (.ref d) := by
  unfold gatF
  rw [lkS (by decide +kernel)]
  exact lk0
theorem gat_no {m : Nat} {d : Addr} {x : Str} (h1 : (x == Str.ofString "many") = false) (h2 : (x == Str.ofString "pieces") = false) : (gatF m d).lookup x = none := by
  unfold gatF
  rw [lkS h1, lkS h2]
  rfl
end Fp

set_option Elab.async false
set_option linter.all false
set_option maxRecDepth 100000
set_option maxHeartbeats 4000000
/-! Things near by, under a bag of four; settings (for k37 and on). -/
namespace Fp
open PySem L2 PyProof.Rows
section
variable {X : Cx}
theorem call_str_bool : CallR X (.type "str") (fun xs H Q => ∃ b, xs = [.bl b] ∧ Q (.str (if b = true then Str.ofString "True" else Str.ofString "False")) H) := by
  intro pins s σ H xs us Q I r h
  obtain ⟨b, rfl, q⟩ := h
  obtain ⟨u, rfl, rx⟩ := vals1 r
  cases rx
  refine PySem.P.str_of_bool ⟨.str (if b = true then Str.ofString "True" else Str.ofString "False"), H, I.tok _, ⟨_, rfl⟩, q⟩
end
theorem It.bx4 {b : Addr} {H H' : Hp} {v : V} (h : It b H v) (hb : Bag4 H b) (x : Bx4 b H H') : It b H' v := by
  rcases h with h | ⟨a, xs, rfl, n, e⟩ | ⟨a, xs, rfl, e⟩
  · exact .inl h
  · exact .inr (.inl ⟨a, xs, rfl, n, x.2 _ _ n e⟩)
  · exact .inr (.inr ⟨a, xs, rfl, x.2 _ _ (hb.tup e) e⟩)
theorem Tg.bx4 {b : Addr} {H H' : Hp} {v : V} (h : Tg b H v) (hb : Bag4 H b) (x : Bx4 b H H') : Tg b H' v := by
  rcases h with h | ⟨a, xs, rfl, n, e⟩ | ⟨a, xs, rfl, e, l, k⟩
  · exact .inl h
  · exact .inr (.inl ⟨a, xs, rfl, n, x.2 _ _ n e⟩)
  · exact .inr (.inr ⟨a, xs, rfl, x.2 _ _ (hb.tup e) e, l, fun u hu => (k u hu).bx4 hb x⟩)
theorem It.same {b : Addr} {H H' : Hp} {v : V} (h : It b H v) (x : Same H H') : It b H' v := by
  rcases h with h | ⟨a, xs, rfl, n, e⟩ | ⟨a, xs, rfl, e⟩
  · exact .inl h
  · exact .inr (.inl ⟨a, xs, rfl, n, x _ _ e⟩)
  · exact .inr (.inr ⟨a, xs, rfl, x _ _ e⟩)
theorem Tg.same {b : Addr} {H H' : Hp} {v : V} (h : Tg b H v) (x : Same H H') : Tg b H' v := by
  rcases h with h | ⟨a, xs, rfl, n, e⟩ | ⟨a, xs, rfl, e, l, k⟩
  · exact .inl h
  · exact .inr (.inl ⟨a, xs, rfl, n, x _ _ e⟩)
  · exact .inr (.inr ⟨a, xs, rfl, x _ _ e, l, fun u hu => (k u hu).same x⟩)
theorem Tg.non {b : Addr} {H : Hp} : Tg b H .non := .inl (.inl rfl)
theorem Tg.bl {b : Addr} {H : Hp} (x : Bool) : Tg b H (.bl x) := .inl (.inr (.inl ⟨x, rfl⟩))
theorem Tg.int {b : Addr} {H : Hp} (i : Int) : Tg b H (.int i) := .inl (.inr (.inr (.inl ⟨i, rfl⟩)))
theorem Tg.word {b : Addr} {H : Hp} {z : Str} (h : z.length ≤ 100000) : Tg b H (.str z) := .inl (.inr (.inr (.inr ⟨z, rfl, h⟩)))
theorem Tg.lst {b a : Addr} {H : Hp} {xs : List V} (n : a ≠ b) (e : H a = some (.lst xs)) : Tg b H (.ref a) := .inr (.inl ⟨a, xs, rfl, n, e⟩)
theorem Tg.tup {b a : Addr} {H : Hp} {xs : List V} (e : H a = some (.tup xs)) (l : xs.length ≤ 1000) (h : ∀ u ∈ xs, It b H u) : Tg b H (.ref a) := .inr (.inr ⟨a, xs, rfl, e, l, h⟩)
theorem all_nil {p : V → Prop} : ∀ u ∈ ([] : List V), p u := fun _ h => nomatch h
theorem all_cons {p : V → Prop} {x : V} {xs : List V} (h1 : p x) (h2 : ∀ u ∈ xs, p u) : ∀ u ∈ x :: xs, p u := fun u hu => by
  rcases List.mem_cons.mp hu with e | e
  · rw [e]
    exact h1
  · exact h2 u e
theorem all_app {p : V → Prop} {xs ys : List V} (h1 : ∀ u ∈ xs, p u) (h2 : ∀ u ∈ ys, p u) : ∀ u ∈ xs ++ ys, p u := fun u hu => by
  rcases List.mem_append.mp hu with e | e
  · exact h1 u e
  · exact h2 u e
theorem all_cut {p : V → Prop} {xs : List V} (h : ∀ u ∈ xs, p u) (lo hi : Option Int) : ∀ u ∈ cutV xs lo hi, p u := fun u hu => h u (cutV_mem hu)
/-- one of a list of things -/
theorem atI_all {p : V → Prop} {xs : List V} (h : ∀ u ∈ xs, p u) {j : Int} (j0 : 0 ≤ j) (j1 : j < xs.length) : ∃ u, atI xs j = some u ∧ p u := by
  obtain ⟨k, rfl⟩ := Int.eq_ofNat_of_zero_le j0
  have hk : k < xs.length := by omega
  exact ⟨xs[k], atI_nat (List.getElem?_eq_getElem hk), h _ (List.getElem_mem hk)⟩
/-! ### settings -/
structure Stt where
  br : Nat
  ev : Nat
  sp : Nat
  md : Bool
def stV (s : Stt) : List V := [.int (s.br : Int), .int (s.ev : Int), .int (s.sp : Int), .bl s.md]
def stDD (s : Stt) : PyData := .tuple [.int (s.br : Int), .int (s.ev : Int), .int (s.sp : Int), .bool s.md]
def SOk (s : Stt) : Prop := 8 ≤ s.br ∧ s.br ≤ 64 ∧ (s.ev = 1 ∨ s.ev = 2 ∨ s.ev = 4) ∧ 1 ≤ s.sp ∧ s.sp ≤ 4
def agr (s t : Stt) : Stt := ⟨min s.br t.br, min s.ev t.ev, min s.sp t.sp, s.md && t.md⟩
theorem agr_ok {s t : Stt} (h : SOk s) (k : SOk t) : SOk (agr s t) := by
  obtain ⟨h1, h2, h3, h4, h5⟩ := h
  obtain ⟨k1, k2, k3, k4, k5⟩ := k
  refine ⟨?_, ?_, ?_, ?_, ?_⟩
  · show 8 ≤ min s.br t.br
    omega
  · show min s.br t.br ≤ 64
    omega
  · show min s.ev t.ev = 1 ∨ min s.ev t.ev = 2 ∨ min s.ev t.ev = 4
    omega
  · show 1 ≤ min s.sp t.sp
    omega
  · show min s.sp t.sp ≤ 4
    omega
theorem agr_comm (s t : Stt) : agr s t = agr t s := by
  unfold agr
  rw [Nat.min_comm, Nat.min_comm s.ev, Nat.min_comm s.sp, Bool.and_comm]
theorem agr_self (s : Stt) : agr s s = s := by
  unfold agr
  rw [Nat.min_self, Nat.min_self, Nat.min_self, Bool.and_self]
theorem agr_left (s t : Stt) : agr (agr s t) s = agr s t := by
  unfold agr
  have e1 : min (min s.br t.br) s.br = min s.br t.br := by omega
  have e2 : min (min s.ev t.ev) s.ev = min s.ev t.ev := by omega
  have e3 : min (min s.sp t.sp) s.sp = min s.sp t.sp := by omega
  have e4 : (s.md && t.md && s.md) = (s.md && t.md) := by cases s.md <;> cases t.md <;> rfl
  simp only [e1, e2, e3, e4]
theorem dp_st {K : PySem.W.Frag} {H : Hp} {a : Addr} {s : Stt} (h : H a = some (.tup (stV s))) : Dp K H (.ref a) (stDD s) := .tup (.inl (.inl h)) (.cons (.int _) (.cons (.int _) (.cons (.int _) (.cons (.bl _) .nil))))
theorem stDD_ok (s : Stt) (h : SOk s) : DOk (stDD s) 40 ∧ ShOk (stDD s) 100000 := by
  obtain ⟨_, h2, h3, _, h5⟩ := h
  refine ⟨(DOk.tuple (α := PyData) (f := id) (n := 0) (xs := [.int (s.br : Int), .int (s.ev : Int), .int (s.sp : Int), .bool s.md]) fun x hx => ?_).mono (by decide), ((ShAll.cons (ShOk.nat (n := s.br) (by omega)) (ShAll.cons (ShOk.nat (n := s.ev) (by omega)) (ShAll.cons (ShOk.nat (n := s.sp) (by omega)) (ShAll.cons (ShOk.bool s.md) ShAll.nil)))).tup).mono (by show 28 ≤ 100000; decide)⟩
  simp only [List.mem_cons, List.not_mem_nil, or_false] at hx
  rcases hx with rfl | rfl | rfl | rfl
  · exact DOk.int _
  · exact DOk.int _
  · exact DOk.int _
  · exact DOk.bool _
theorem st_it {b : Addr} {H : Hp} (s : Stt) : ∀ u ∈ stV s, It b H u := all_cons (.inl (.inr (.inr (.inl ⟨_, rfl⟩)))) (all_cons (.inl (.inr (.inr (.inl ⟨_, rfl⟩)))) (all_cons (.inl (.inr (.inr (.inl ⟨_, rfl⟩)))) (all_cons (.inl (.inr (.inl ⟨_, rfl⟩))) all_nil)))
/-- whole numbers from one to another -/
def whole (v : V) (lo hi : Int) : Bool := match v with
  | .int n => decide (lo ≤ n) && decide (n ≤ hi)
  | _ => false
def isBl (v : V) : Bool := match v with
  | .bl _ => true
  | _ => false
def setL (xs : List V) : Bool := match xs with
  | [x0, x1, x2, x3] => whole x0 8 64 && (whole x1 1 2 || whole x1 4 4) && whole x2 1 4 && isBl x3
  | _ => false
/-- whether a thing is a setting -/
def SetR (H : Hp) (v : V) (r : Bool) : Prop := (∃ a xs, v = .ref a ∧ H a = some (.tup xs) ∧ r = setL xs) ∨ ((∀ a xs, v = .ref a → H a ≠ some (.tup xs)) ∧ r = false)
theorem setR_some {b : Addr} {H : Hp} {v : V} (h : Tg b H v) : ∃ r, SetR H v r := by
  rcases h with h | ⟨a, xs, rfl, n, e⟩ | ⟨a, xs, rfl, e, l, k⟩
  · refine ⟨false, .inr ⟨fun a xs z => ?_, rfl⟩⟩
    rcases h with rfl | ⟨_, rfl⟩ | ⟨_, rfl⟩ | ⟨_, rfl, _⟩ <;> cases z
  · refine ⟨false, .inr ⟨fun c ys z => ?_, rfl⟩⟩
    cases z
    rw [e]
    intro y
    cases y
  · exact ⟨_, .inl ⟨a, xs, rfl, e, rfl⟩⟩
theorem setL_st {s : Stt} (h : SOk s) : setL (stV s) = true := by
  obtain ⟨h1, h2, h3, h4, h5⟩ := h
  show (whole (.int (s.br : Int)) 8 64 && (whole (.int (s.ev : Int)) 1 2 || whole (.int (s.ev : Int)) 4 4) && whole (.int (s.sp : Int)) 1 4 && isBl (.bl s.md)) = true
  unfold whole isBl
  simp only [Bool.and_true, Bool.and_eq_true, Bool.or_eq_true, decide_eq_true_eq]
  omega
end Fp

set_option Elab.async false
set_option linter.all false
set_option maxRecDepth 100000
set_option maxHeartbeats 4000000
/-! What is asked where so many tokens are out already: str.replace asks by tokens whether two texts are one. -/
namespace FpT
open PySem PySem.Spec PyProof.Rows L2 Fp
/-- an expression's promise, n tokens being out -/
structure NE (n : Nat) (X : Cx) (e : Expr) (t : TE) : Prop where
  go : ∀ {pins : List (Addr × Obj)} {s : Shared} {σ : L2.St} {H : Hp} {Q : VK}, n ≤ s.toks → Inv X pins σ H s → t σ H Q → wpAny (model X.prog X.w) X.A (eval e X.env) (EP X pins σ Q) X.xe s
structure NT (n : Nat) (X : Cx) (e : Expr) (t : TT) : Prop where
  go : ∀ {pins : List (Addr × Obj)} {s : Shared} {σ : L2.St} {H : Hp} {Q : Bool → Hp → Prop}, n ≤ s.toks → Inv X pins σ H s → t σ H Q → wpAny (model X.prog X.w) X.A (isTrue e X.env (eval e X.env)) (TP X pins σ Q) X.xe s
structure NW (n : Nat) (X : Cx) (e : Expr) (t : TT) : Prop where
  go : ∀ {wh : Sem Value} {pins : List (Addr × Obj)} {s : Shared} {σ : L2.St} {H : Hp} {Q : Bool → Hp → Prop}, n ≤ s.toks → Inv X pins σ H s → t σ H Q → wpAny (model X.prog X.w) X.A (isTrue e X.env wh) (TP X pins σ Q) X.xe s
structure NA (n : Nat) (X : Cx) (es : List Expr) (t : TA) : Prop where
  go : ∀ {pos : Pos} {pins : List (Addr × Obj)} {s : Shared} {σ : L2.St} {H : Hp} {Q : List V → Hp → Prop}, n ≤ s.toks → Inv X pins σ H s → t σ H Q → wpAny (model X.prog X.w) X.A (spliced (backTo pos (starEach es X.env))) (AP X pins σ Q) X.xe s
structure NS (n : Nat) (X : Cx) (st : Stmt) (t : TS) : Prop where
  go : ∀ {pins : List (Addr × Obj)} {s : Shared} {σ : L2.St} {H : Hp} {D : Ends}, n ≤ s.toks → Inv X pins σ H s → t D σ H → wpAny (model X.prog X.w) X.A (exec st X.env) (SP X pins D) X.xe s
structure NB (n : Nat) (X : Cx) (st : List Stmt) (t : TS) : Prop where
  go : ∀ {pins : List (Addr × Obj)} {s : Shared} {σ : L2.St} {H : Hp} {D : Ends}, n ≤ s.toks → Inv X pins σ H s → t D σ H → wpAny (model X.prog X.w) X.A (execs st X.env) (SP X pins D) X.xe s
/-- a test behind which n tokens are out, wherever it began -/
structure BT (n : Nat) (X : Cx) (e : Expr) (t : TT) : Prop where
  go : ∀ {wh : Sem Value} {pins : List (Addr × Obj)} {s : Shared} {σ : L2.St} {H : Hp} {Q : Bool → Hp → Prop}, Inv X pins σ H s → t σ H Q → wpAny (model X.prog X.w) X.A (isTrue e X.env wh) (fun b s1 => n ≤ s1.toks ∧ TP X pins σ Q b s1) X.xe s
structure BE (n : Nat) (X : Cx) (e : Expr) (t : TE) : Prop where
  go : ∀ {pins : List (Addr × Obj)} {s : Shared} {σ : L2.St} {H : Hp} {Q : VK}, Inv X pins σ H s → t σ H Q → wpAny (model X.prog X.w) X.A (eval e X.env) (fun u s1 => n ≤ s1.toks ∧ EP X pins σ Q u s1) X.xe s
/-- and then, the tokens carried on -/
theorem tthn {α : Type} {m : Sem α} {M : Model} {A : Around} {Q Q' : α → Shared → Prop} {E : Value → Shared → Prop} {s : Shared} {n : Nat} (hn : n ≤ s.toks) (h : wpAny M A m Q E s) (k : ∀ a s1, n ≤ s1.toks → Q a s1 → Q' a s1) : wpAny M A m Q' E s :=
  wpAny_mono (wpAny_toks_of hn h) (fun a s1 z => k a s1 z.1 z.2) fun _ _ z => z.2
section
variable {X : Cx} {n : Nat} {a b e : Expr} {rest es : List Expr} {st : Stmt} {sts : List Stmt} {te ta tb : TE} {tt tA tB : TT} {tas : TA} {t u v : TS} {pos : Pos}
theorem NE.of (h : PE X e te) : NE n X e te := ⟨fun _ I q => h.run _ _ _ _ _ I q⟩
theorem NT.of (h : PT X e tt) : NT n X e tt := ⟨fun _ I q => h.run _ _ _ _ _ I q⟩
theorem NW.of (h : PW X e tt) : NW n X e tt := ⟨fun _ I q => h.run _ _ _ _ _ _ I q⟩
theorem NW.nt (h : NW n X e tt) : NT n X e tt := ⟨fun k I q => h.go k I q⟩
theorem NA.of (h : PA X es tas) : NA n X es tas := ⟨fun _ I q => h.run _ _ _ _ _ _ I q⟩
theorem NS.of (h : PS X st t) : NS n X st t := ⟨fun _ I q => h.run _ _ _ _ _ I q⟩
theorem NB.of (h : PSs X sts t) : NB n X sts t := ⟨fun _ I q => h.run _ _ _ _ _ I q⟩
theorem NE.mono {m : Nat} (h : NE n X e te) (l : n ≤ m) : NE m X e te := ⟨fun k I q => h.go (Nat.le_trans l k) I q⟩
theorem NB.mono {m : Nat} (h : NB n X sts t) (l : n ≤ m) : NB m X sts t := ⟨fun k I q => h.go (Nat.le_trans l k) I q⟩
theorem nb_cons (h1 : NS n X st t) (h2 : NB n X sts u) : NB n X (st :: sts) (tSeq t u) := by
  refine ⟨fun {pins s σ H D} k I q => ?_⟩
  refine wpAny_execs_cons (tthn k (h1.go (D := { D with nx := u D }) k I q) fun f s1 k1 z => ?_)
  cases f with
  | next =>
    obtain ⟨σ1, H1, I1, q1⟩ := z
    exact h2.go k1 I1 q1
  | ret w => exact z
  | brk => exact z
  | cont => exact z
theorem ns_if {c : Expr} {x y : List Stmt} (hc : NT n X c tt) (h1 : NB n X x t) (h2 : NB n X y u) : NS n X (.If c x y pos) (tIfS tt t u) := by
  refine ⟨fun {pins s σ H D} k I q => ?_⟩
  refine wpAny_If (tthn k (hc.go k I q) fun d s1 k1 z => ?_)
  obtain ⟨H1, I1, q1⟩ := z
  cases d with
  | true => exact h1.go k1 I1 q1
  | false => exact h2.go k1 I1 q1
theorem ns_ret (h : NE n X e te) : NS n X (.Return (some e) pos) (tRet te) := by
  refine ⟨fun {pins s σ H D} k I q => wpAny_Return_some (tthn k (h.go k I q) fun w s1 _ z => ?_)⟩
  obtain ⟨x, H1, I1, r1, q1⟩ := z
  exact ⟨x, σ, H1, I1, r1, q1⟩
theorem ne_one {op} (h : NE n X a te) : NE n X (.BoolOp op [a] pos) te := ⟨fun k I q => BoolOp_one (h.go k I q)⟩
theorem ne_and (h1 : NE n X a ta) (h2 : NE n X (.BoolOp .And (b :: rest) pos) tb) : NE n X (.BoolOp .And (a :: b :: rest) pos) (tAndV ta tb) := by
  refine ⟨fun {pins s σ H Q} k I q => BoolOp_and (tthn k (h1.go k I q) fun w s1 k1 z => ?_)⟩
  obtain ⟨x, H1, I1, r1, c, rfl, q1⟩ := z
  cases r1
  refine wpAny_truthy_bool ?_
  cases c with
  | true => exact h2.go k1 I1 q1
  | false => exact ⟨.bl false, H1, I1, rfl, q1⟩
theorem ne_cmpR {op : CmpOp} {r : R2} (ho : OpR X (compareOp op) r) (h1 : NE n X a ta) (h2 : NE n X b tb) (hm : behindInMarks op b = false) : NE n X (.Compare a [op] [b] pos) (tOp r ta tb) := by
  refine ⟨fun {pins s σ H Q} k I q => wpAny_Compare1 (tthn k (h1.go k I q) fun w s1 k1 z => ?_) hm⟩
  obtain ⟨x, H1, I1, r1, q1⟩ := z
  refine tthn k1 (h2.go k1 I1 q1) fun w2 s2 k2 z2 => ?_
  obtain ⟨y, H2, I2, r2, q2⟩ := z2
  exact ho pins s2 σ H2 x y w w2 Q I2 r1 r2 q2
theorem nt_cmpR {op : CmpOp} {r : R2} (ho : OpR X (compareOp op) r) (h1 : NE n X a ta) (h2 : NE n X b tb) (hm : behindInMarks op b = false) : NT n X (.Compare a [op] [b] pos) (tTest (tOp r ta tb)) := by
  refine ⟨fun {pins s σ H Q} k I q => wpAny_isTrue_Compare1 (tthn k (h1.go k I q) fun w s1 k1 z => ?_) hm⟩
  obtain ⟨x, H1, I1, r1, q1⟩ := z
  refine tthn k1 (h2.go k1 I1 q1) fun w2 s2 k2 z2 => ?_
  obtain ⟨y, H2, I2, r2, q2⟩ := z2
  refine thn (ho pins s2 σ H2 x y w w2 _ I2 r1 r2 q2) fun c s3 z3 => ?_
  obtain ⟨z, H3, I3, r3, d, e, q3⟩ := z3
  subst e
  cases r3
  exact wpAny_truthy_bool ⟨H3, I3, q3⟩
theorem nt_val (h : NE n X e te) (he : ∀ whole, isTrue e X.env whole = (do let v ← whole; standAt e.pos; holding [v] (truthy v)) := by intro _; rfl) : NT n X e (L2.tB te) := by
  refine ⟨fun {pins s σ H Q} k I q => ?_⟩
  rw [he]
  refine wpAny_bind (tthn k (h.go k I q) fun w s1 _ z => ?_)
  obtain ⟨x, H1, I1, r1, c, rfl, q1⟩ := z
  cases r1
  exact wpAny_bind (wpAny_standAt (wpAny_holding (wpAny_truthy_bool ⟨H1, I1, q1⟩)))
theorem nt_not (h : NT n X a tA) : NT n X (.UnaryOp .Not a pos) (tNot tA) := by
  refine ⟨fun {pins s σ H Q} k I q => isTrue_not (tthn k (h.go k I q) fun c s1 _ z => ?_)⟩
  obtain ⟨H1, I1, q1⟩ := z
  exact ⟨H1, I1, q1⟩
theorem nw_or1 (h : NT n X a tA) : NW n X (.BoolOp .Or [a] pos) tA := by
  refine ⟨fun {wh pins s σ H Q} k I q => isTrue_or (tthn k (h.go k I q) fun c s1 _ z => ?_)⟩
  cases c with
  | false => exact isTrue_or_nil z
  | true => exact z
theorem nw_or (h1 : NT n X a tA) (h2 : NW n X (.BoolOp .Or (b :: rest) pos) tB) : NW n X (.BoolOp .Or (a :: b :: rest) pos) (tOr tA tB) := by
  refine ⟨fun {wh pins s σ H Q} k I q => isTrue_or (tthn k (h1.go k I q) fun c s1 k1 z => ?_)⟩
  obtain ⟨H1, I1, q1⟩ := z
  cases c with
  | true => exact ⟨H1, I1, q1⟩
  | false => exact h2.go k1 I1 q1
theorem na_nil : NA n X [] tNil := ⟨fun {_ _ _ _ H _} _ I q => Calls.spliced_nil ⟨[], H, I, .nil, q⟩⟩
theorem na_cons (h1 : NE n X e te) (h2 : NA n X es tas) (hs : starEach (e :: es) X.env = (false, eval e X.env) :: starEach es X.env := by rfl) : NA n X (e :: es) (tCons te tas) := by
  refine ⟨fun {pos pins s σ H Q} k I q => ?_⟩
  rw [hs]
  refine Calls.spliced_cons (tthn k (h1.go k I q) fun w s1 k1 z => ?_)
  obtain ⟨x, H1, I1, r1, q1⟩ := z
  refine thn (h2.go (pos := pos) k1 I1 q1) fun us s2 z2 => ?_
  obtain ⟨xs, H2, I2, r2, q2⟩ := z2
  exact ⟨x :: xs, H2, I2, .cons r1 r2, q2⟩
theorem ns_asg {tg : Expr} {g : TG} (h : NE n X e te) (hg : PG X tg g) (hs : swapsWithSole [tg] e pos.line X.env = pure false := by rfl) (hw : swappedStores [tg] e X.env = pure none := by rfl)
    (h1 : (assignEach [tg] X.env).map (·.2) = [assign tg X.env] := by rfl) : NS n X (.Assign [tg] e pos) (tAsg te g) := by
  refine ⟨fun {pins s σ H D} k I q => wpAny_Assign_stores (tthn k (h.go k I q) fun w s1 _ z => ?_) hs hw⟩
  obtain ⟨x, H1, I1, r1, q1⟩ := z
  rw [h1]
  exact hg.run pins s1 σ H1 x w _ I1 r1 q1
/-! ### tokens given out on the way -/
theorem be_str {c : Str} {j : Nat} : BE 1 X (.Constant (.str c) j pos) (tC (.str c)) := ⟨fun {_ s _ H _} I q => Calls.Constant_str ⟨Nat.le_add_left 1 s.toks, .str c, H, I.tok _, ⟨_, rfl⟩, q⟩⟩
theorem be_cmpR {op : CmpOp} {r : R2} (ho : OpR X (compareOp op) r) (h1 : PE X a ta) (h2 : BE n X b tb) (hm : behindInMarks op b = false) : BE n X (.Compare a [op] [b] pos) (tOp r ta tb) := by
  refine ⟨fun {pins s σ H Q} I q => wpAny_Compare1 (thn (h1.run pins s σ H _ I q) fun w s1 z => ?_) hm⟩
  obtain ⟨x, H1, I1, r1, q1⟩ := z
  refine thn (h2.go I1 q1) fun w2 s2 z2 => ?_
  obtain ⟨k2, y, H2, I2, r2, q2⟩ := z2
  exact tthn k2 (ho pins s2 σ H2 x y w w2 Q I2 r1 r2 q2) fun _ _ k3 z3 => ⟨k3, z3⟩
theorem bt_cmpR {op : CmpOp} {r : R2} (ho : OpR X (compareOp op) r) (h1 : PE X a ta) (h2 : BE n X b tb) (hm : behindInMarks op b = false) : BT n X (.Compare a [op] [b] pos) (tTest (tOp r ta tb)) := by
  refine ⟨fun {wh pins s σ H Q} I q => wpAny_isTrue_Compare1 (thn (h1.run pins s σ H _ I q) fun w s1 z => ?_) hm⟩
  obtain ⟨x, H1, I1, r1, q1⟩ := z
  refine thn (h2.go I1 q1) fun w2 s2 z2 => ?_
  obtain ⟨k2, y, H2, I2, r2, q2⟩ := z2
  refine tthn k2 (ho pins s2 σ H2 x y w w2 _ I2 r1 r2 q2) fun c s3 k3 z3 => ?_
  obtain ⟨z, H3, I3, r3, d, e, q3⟩ := z3
  subst e
  cases r3
  exact wpAny_truthy_bool ⟨k3, H3, I3, q3⟩
theorem bt_or (h1 : BT n X a tA) (h2 : PW X (.BoolOp .Or (b :: rest) pos) tB) : BT n X (.BoolOp .Or (a :: b :: rest) pos) (tOr tA tB) := by
  refine ⟨fun {wh pins s σ H Q} I q => isTrue_or (thn (h1.go I q) fun c s1 z => ?_)⟩
  obtain ⟨k1, H1, I1, q1⟩ := z
  cases c with
  | true => exact ⟨k1, H1, I1, q1⟩
  | false => exact tthn k1 (h2.run wh pins s1 σ H1 Q I1 q1) fun _ _ k2 z2 => ⟨k2, z2⟩
/-- behind a test that gives tokens out: both ways, and what follows -/
theorem pss_ifB {c : Expr} {x y : List Stmt} (hc : BT n X c tt) (h1 : NB n X x t) (h2 : NB n X y u) (h3 : NB n X sts v) : PSs X (.If c x y pos :: sts) (tSeq (tIfS tt t u) v) := by
  refine ⟨fun pins s σ H D I q => wpAny_execs_cons (wpAny_If (thn (hc.go I q) fun d s1 z => ?_))⟩
  obtain ⟨k1, H1, I1, q1⟩ := z
  have on : ∀ (f : Flow) (s2 : Shared), n ≤ s2.toks → SP X pins { D with nx := v D } f s2 → (match f with | .next => wpAny (model X.prog X.w) X.A (execs sts X.env) (SP X pins D) X.xe s2 | f => SP X pins D f s2) := fun f s2 k2 z2 => by
    cases f with
    | next =>
      obtain ⟨σ2, H2, I2, q2⟩ := z2
      exact h3.go k2 I2 q2
    | ret w => exact z2
    | brk => exact z2
    | cont => exact z2
  cases d with
  | true => exact tthn k1 (h1.go (D := { D with nx := v D }) k1 I1 q1) on
  | false => exact tthn k1 (h2.go (D := { D with nx := v D }) k1 I1 q1) on
/-- and: behind a first part that gives tokens out -/
theorem pe_andB (h1 : BE n X a ta) (h2 : NE n X (.BoolOp .And (b :: rest) pos) tb) : PE X (.BoolOp .And (a :: b :: rest) pos) (tAndV ta tb) := by
  refine ⟨fun pins s σ H Q I q => BoolOp_and (thn (h1.go I q) fun w s1 z => ?_)⟩
  obtain ⟨k1, x, H1, I1, r1, c, rfl, q1⟩ := z
  cases r1
  refine wpAny_truthy_bool ?_
  cases c with
  | true => exact h2.go k1 I1 q1
  | false => exact ⟨.bl false, H1, I1, rfl, q1⟩
/-! ### text.replace(two written texts) -/
def tRpl (y z : Str) (to : TE) : TE := fun σ H Q => to σ H fun x H1 => ∃ c, x = .str c ∧ c.length + (c.length + 1) * z.length ≤ 16777216 ∧ Q (.str (Txt.replace c y z)) H1
theorem ne_rpl {o : Expr} {y z : Str} {j0 j1 : Nat} {c0 c1 apos : Pos} {to : TE} (l : 1 ≤ n) (h : NE n X o to) (hyz : (y == z) = false)
    (hst : starEach [.Constant (.str y) j0 c0, .Constant (.str z) j1 c1] X.env = [(false, eval (.Constant (.str y) j0 c0) X.env), (false, eval (.Constant (.str z) j1 c1) X.env)] := by rfl)
    (hbase : attributeBase o "replace" X.env (eval o X.env) = eval o X.env := by rfl) (hline : (apos.endLine == pos.line) = true := by rfl) :
    NE n X (.Call (.Attribute o "replace" apos) [.Constant (.str y) j0 c0, .Constant (.str z) j1 c1] [] pos) (tRpl y z to) := by
  refine ⟨fun {pins s σ H Q} k I q => PySem.Call_method2 hbase hst hline (tthn k (h.go k I q) fun w s1 k1 z1 => ?_)⟩
  obtain ⟨x, H1, I1, r1, c, rfl, hb, q1⟩ := z1
  obtain ⟨tx, e⟩ := r1
  subst e
  refine ⟨"str", _, F.plainAttrs_str, F.slot_str_replace, F.type_str_replace, typeIs_str _ _ _, (fun _ e => nomatch e), Calls.callWith_builtin rfl (Calls.evalArgs_plain (Calls.spliced_cons (Calls.Constant_str (Calls.spliced_cons (Calls.Constant_str (Calls.spliced_nil ?_))))))⟩
  have p1 : 1 ≤ s1.toks := Nat.le_trans l k1
  exact PySem.SC.replace (show s1.toks ≠ 0 by omega) (show s1.toks + 1 ≠ 0 by omega) (show s1.toks ≠ s1.toks + 1 by omega) hyz hb fun t' m => ⟨.str (Txt.replace c y z), H1, I1.tok m, ⟨t', rfl⟩, q1⟩
end
/-! ### defs that want n tokens out -/
structure FnN (n : Nat) (P : Program) (w : World) (K : PySem.W.Frag) (mg : Str → Option Value) (base : Heap) (CX : CXT) (k : Nat) (f : Addr) (fd : FuncData) (ps : List Str) (sp : Sp) : Prop where
  many : ∀ vs H Q E, sp vs H Q E → vs.length = ps.length
  goes : ∀ (A : Around) (out : List Env) (s : Shared) (H : Hp) (args : Args) (us : List Value) (vs : List V) (Q : VK) (E : XK), n ≤ s.toks → A.guards = some [] → Room k A → Env0 P w K mg base A out s H → BindsTo s fd args (ps.zip us) → Vals vs us → sp vs H Q E →
    codeAny (model P w) A (.call (.ref f) args) (CR CX out P w H s Q E) s
section
variable {n : Nat} {P : Program} {w : World} {K : PySem.W.Frag} {mg : Str → Option Value} {base : Heap} {CX : CXT} {k : Nat} {f : Addr} {fd : FuncData} {ps : List Str} {sp : Sp}
theorem FnN.of (F : FnOk P w K mg base CX k f fd ps sp) : FnN n P w K mg base CX k f fd ps sp := ⟨F.len, fun A out s H args us vs Q E _ _ => F.run A out s H args us vs Q E⟩
theorem FnN.ofG (F : FpG.FnG P w K mg base CX k f fd ps sp) : FnN n P w K mg base CX k f fd ps sp := ⟨F.many, fun A out s H args us vs Q E _ gd => F.goes A out s H args us vs Q E gd⟩
theorem fnN_of {name qual : Str} {params : Arguments} {body : List Stmt} {scope : Scope} {dV kV doc pm cdv ct oc : Value} {an od : Option Addr} {osl : Array (Option Value)} {N : List Str}
    (at_ : K.lookup f = some ⟨oc, od, .func (PySem.W.fnOf name qual params body scope dV kV doc pm an cdv ct), osl⟩) (code : PySem.W.codeIn K cdv qual = true) (S : FnScope N ps scope) (many : ∀ vs H Q E, sp vs H Q E → vs.length = ps.length)
    (hb : ∀ (A : Around) (out : List Env) (s : Shared) (H : Hp) (vs : List V) (Q : VK) (E : XK), (A.deeper (envOfC qual scope s.heap.objs.size f cdv)).guards = some [] → Room k (A.deeper (envOfC qual scope s.heap.objs.size f cdv)) → sp vs H Q E →
      ∃ t, NB n (cxOf CX P w K mg base N qual scope f cdv A out s H E) body t ∧ t { nx := fun _ H' => Q .non H', rt := Q } (start N vs) H) :
    FnN n P w K mg base CX (k + 1) f (PySem.W.fnOf name qual params body scope dV kV doc pm an cdv ct) ps sp := by
  refine ⟨many, fun A out s H args us vs Q E hn gd room env bind rel want => ?_⟩
  have kin : K.In s.heap := env.mod.kin.keeps fun c o e => (env.bs c o e).1
  have nolim : s.heap.NoLimit := env.mod.nolimit.keeps fun c o e => (env.bs c o e).1
  have kinds : ∀ y ∈ ps.zip us, scope.names.lookup y.1 = some .local ∨ (scope.names.lookup y.1 = some .cell ∧ ((cellsFrom (s.heap.objs.size + 1) scope.names []).lookup y.1).isSome = true) := by
    rintro ⟨m, v⟩ hy
    exact (S.par m (List.of_mem_zip hy).1).imp id fun c => ⟨c, PySem.W.cellsFrom_some _ _ _ (.inl c)⟩
  refine codeAny_call_function room.depth (kin _ _ at_) rfl S.co S.gen rfl (PySem.W.codeRec_of kin code) (bind _ _ _ _ ?_)
  refine wpAny_with_toks hn (wpAny_newFunctionEnv_cells S.kind kinds fun ev ee s1 ic => ?_)
  subst ee
  intro hk
  refine ⟨nolim.keeps ic.toInCall.keep, codeAny_func ?_⟩
  obtain ⟨t, pt, qt⟩ := hb A out s H vs Q E gd (room.deeper _) want
  have inv := inv_start (CX := CX) (E := E) S room.hd env (many _ _ _ _ want) rel ic
  refine wpAny_mono (pt.go hk inv qt) (fun fl s' hs => ?_) fun e s' hs => hs
  cases fl with
  | ret u =>
    obtain ⟨v, σ', H', J, rv, q⟩ := hs
    exact ⟨v, H', J.os, J.bare, J.base, J.hok, rv, q⟩
  | next =>
    obtain ⟨σ', H', J, q⟩ := hs
    exact ⟨.non, H', J.os, J.bare, J.base, J.hok, rfl, q⟩
  | brk => exact hs.elim fun _ z => z.elim fun _ z => z.2.elim
  | cont => exact hs.elim fun _ z => z.elim fun _ z => z.2.elim
theorem NB.nox {X : Cx} {sts : List Stmt} {t : TS} (h : NB n X.nox sts t) : NB n X sts t := ⟨fun {pins s σ H D} c I q => wpAny_mono (h.go c (I.wish _) q) (fun _ _ z => z.unwish) fun _ _ z => z.elim⟩
/-- from the def's place in the text -/
theorem okN {x qual : Str} {st : Stmt} {N : List Str} (F : Fun K x qual st f fd) (S : FnScope N ps (defScope st)) (many : ∀ vs H Q E, sp vs H Q E → vs.length = ps.length)
    (hb : ∀ (cdv : Value) (A : Around) (out : List Env) (s : Shared) (H : Hp) (vs : List V) (Q : VK) (E : XK), (A.deeper (envOfC qual (defScope st) s.heap.objs.size f cdv)).guards = some [] → Room k (A.deeper (envOfC qual (defScope st) s.heap.objs.size f cdv)) → sp vs H Q E →
      ∃ t, NB n (cxOf CX0 P w K mg base N qual (defScope st) f cdv A out s H E).nox (defBody st) t ∧ t { nx := fun _ H' => Q .non H', rt := Q } (start N vs) H) : FnN n P w K mg base CX0 (k + 1) f fd ps sp := by
  obtain ⟨oc, od, kV, doc, pm, an, cdv, ct, osl, rfl, at_, code⟩ := F.ex
  refine fnN_of at_ code S many fun A out s H vs Q E gd room want => ?_
  obtain ⟨t, pt, qt⟩ := hb cdv A out s H vs Q E gd room want
  exact ⟨t, pt.nox, qt⟩
end
section
variable {n : Nat} {X : Cx} {CX : CXT} {k : Nat} {f C : Addr} {fd : FuncData} {ps : List Str} {sp : Sp} {dvs : List V} {ds : List Value} {E : XK} {x m : Str} {p pos apos : Pos} {e o : Expr} {es : List Expr} {ta : TE} {t : TA}
theorem run_N {pins : List (Addr × Obj)} {σ : L2.St} {H : Hp} {s : Shared} {Q : VK} {us : List Value} {vs : List V} (F : FnN n X.prog X.w X.K X.mg X.base CX k f fd ps sp) (hn : n ≤ s.toks) (gd : X.A.guards = some []) (room : Room k X.A) (bn : Binds X.K fd ps ds) (dv : Vals dvs ds) (ps_ : Passes CX X E)
    (I : Inv X pins σ H s) (r : Vals vs us) (want : sp (vs ++ dvs) H Q E) : wpAny (model X.prog X.w) X.A (call (.ref f) us) (EP X pins σ Q) X.xe s := by
  have rr : Vals (vs ++ dvs) (us ++ ds) := r.append dv
  have ln : (us ++ ds).length = ps.length := rr.length.symm.trans (F.many _ _ _ _ want)
  refine wpAny_call (codeAny_mono (F.goes X.A X.stack s H ⟨us, []⟩ (us ++ ds) (vs ++ dvs) Q E hn gd room I.env0 (bn s us I.kIn ln) rr want) fun res s' h => ?_)
  cases res with
  | error ex => exact ps_ pins σ H s ex s' I h
  | ok fl =>
    cases fl with
    | ret u => exact I.after h
    | next => exact h.elim
    | brk => exact h.elim
    | cont => exact h.elim
theorem ne_call (F : FnN n X.prog X.w X.K X.mg X.base CX k f fd ps sp) (gd : X.A.guards = some []) (room : Room k X.A) (gl : Gl X x) (at_ : X.mg x = some (.ref f)) (kp : PySem.W.keepIn X.K (.ref f) = true) (bn : Binds X.K fd ps ds) (dv : Vals dvs ds) (ps_ : Passes CX X E)
    (ha : NA n X (e :: es) t) (nd : (x == ("__debug__" : Str)) = false := by decide) (ee : starEach (e :: es) X.env = (false, eval e X.env) :: starEach es X.env := by rfl) (pl : (backTo pos (starEach es X.env)).any (·.1) = false := by rfl) :
    NE n X (.Call (.Name x p) (e :: es) [] pos) (tCall sp dvs E t) := by
  refine ⟨fun {pins s σ H Q} hn I want => wpAny_Call_Name_kw (ld_glob I gl at_ ?_ nd)⟩
  refine PySem.W.callWith_K (h₀ := X.base) I.ok.mod.kin kp (tthn hn (ha.go hn I want) fun us s1 k1 z => ?_) ee pl
  obtain ⟨vs, H1, I1, r, q⟩ := z
  exact ⟨I1.kIn, run_N F k1 gd room bn dv ps_ I1 r q⟩
end
end FpT

set_option Elab.async false
set_option linter.all false
set_option maxRecDepth 100000
set_option maxHeartbeats 4000000
/-! The law entered with no guard around it, so many tokens being out. -/
namespace FpT
open PySem PySem.Spec PyProof.Rows L2 Fp LamX FpG
theorem law_N {t : Nat} {P : Program} {w : World} {K : PySem.W.Frag} {mg mb : Str → Option Value} {CX : CXT} {k : Nat} {fa a : Addr} {cs : List (Addr × Addr)} {fd : FuncData} {x : Str} {sp : Sp} {s : Shared} {vs : List Value} {ns : List Int}
    (out : t ≤ s.toks) (kin : K.In s.heap) (gns : s.heap.Ns mainGlobals mg) (bns : s.heap.Ns builtinsNs mb) (bok : ∀ y : Str, y ≠ "__name__" → mb y = bootBuiltins y) (nolim : s.heap.NoLimit) (ng : s.gens = #[])
    (tabs : ∀ c ∈ cs, s.heap.get? c.2 = some { cls := .none, data := .fields #[] }) (tabsK : ∀ c ∈ cs, K.lookup c.2 = none) (heads : ∀ c ∈ cs, PySem.W.CodeHd s.heap c.1 c.2)
    (bm : ∃ (m : Addr) (ob : Obj), mg "__builtins__" = some (.ref m) ∧ m ≠ builtinsNs ∧ s.heap.get? m = some ob ∧ ob.cls = .type "module" ∧ ob.dict = some builtinsNs ∧ ob.data = .plain)
    (scr : s.heap.get? a = some { cls := .type "list", data := .seq vs.toArray }) (nums : IntsAre vs ns) (few : ns.length ≤ sizeLine) (room : Room k callerA)
    (F : ∀ base : Heap, K.In base → base.Ns mainGlobals mg → (∀ c ∈ cs, TabB base mg c.1 c.2) → FnN t P w K mg base CX k fa fd [x] sp) (bind : ∀ (s : Shared) (u : Value), BindsTo s fd ⟨[u], []⟩ [(x, u)])
    (want : ∀ H : Hp, (∀ c ∈ cs, H c.2 = some (.tbl #[])) → SqL K H a (ns.map V.int) → sp [.ref a] H (fun v _ => v = .bl true) fun _ _ _ => False) (noX : ∀ H e s', CX [] H s (fun _ _ _ => False) e s' → False) :
    codeAny (model P w) callerA (.call (.ref fa) ⟨[.ref a], []⟩) (fun r s' => r = .ok (.ret (.bool true)) ∧ OldK s.heap s'.heap ∧ s'.os = s.os ∧ AllBare s'.gens) s := by
  have rel := vals_ints nums
  have lenV := nums.length
  generalize hT : cs.map Prod.snd = T
  have tabT : ∀ b ∈ T, s.heap.get? b = some { cls := .none, data := .fields #[] } := fun b hb => by
    rw [← hT] at hb
    obtain ⟨c, hc, rfl⟩ := List.mem_map.mp hb
    exact tabs c hc
  have kT : ∀ b ∈ T, K.lookup b = none := fun b hb => by
    rw [← hT] at hb
    obtain ⟨c, hc, rfl⟩ := List.mem_map.mp hb
    exact tabsK c hc
  have inT : ∀ c ∈ cs, c.2 ∈ T := fun c hc => by
    rw [← hT]
    exact List.mem_map.mpr ⟨c, hc, rfl⟩
  have aT : a ∉ T := fun z => by
    have z := (tabT a z).symm.trans scr
    have z : Data.fields #[] = Data.seq vs.toArray _ := congrArg Obj.data (Option.some.inj z)
    cases z
  have small : (ns.map V.int).length ≤ sizeLine := by
    rw [List.length_map]
    exact few
  generalize hB : begH K a vs ns T = H
  have cas : ∀ b, (b ∈ T ∧ H b = some (.tbl #[])) ∨ (b ∉ T ∧ b = a ∧ K.lookup a = none ∧ H b = some (.frz { cls := .type "list", data := .seq vs.toArray } (.lst (ns.map V.int)))) ∨ H b = none := fun b => by
    rw [← hB]
    exact begH_cases b
  have hok : HOk P w H s.heap := fun b o e => by
    rcases cas b with ⟨h1, h2⟩ | ⟨h1, h2, h3, h4⟩ | h1
    · rw [h2] at e
      cases e
      exact tabT b h1
    · rw [h4] at e
      cases e
      subst h2
      exact ⟨scr, small, vs, _, rel, scr⟩
    · rw [h1] at e
      cases e
  have sq : SqL K H a (ns.map V.int) := by
    cases z : K.lookup a with
    | some o =>
      have e := (kin a o z).symm.trans scr
      cases e
      exact .inr ⟨_, vs.toArray, _, z, rfl, rfl, rfl, by rw [List.size_toArray, lenV]; exact few, by simpa using rel⟩
    | none =>
      refine .inl (.inr ⟨{ cls := .type "list", data := .seq vs.toArray }, ?_⟩)
      rw [← hB]
      exact begH_a aT z
  -- what is no list and no table isn't tracked
  have free : ∀ {b : Addr} {o : Obj}, s.heap.get? b = some o → (∀ us n, o.data ≠ .seq us n) → o.data ≠ .fields #[] → H b = none := fun {b o} e n1 n2 => by
    rcases cas b with ⟨h1, _⟩ | ⟨_, h2, _, _⟩ | h1
    · rw [tabT b h1] at e
      cases e
      exact (n2 rfl).elim
    · subst h2
      rw [scr] at e
      cases e
      exact (n1 _ _ rfl).elim
    · exact h1
  have freeD : ∀ {b : Addr} {o : Obj} {es : Array DictEntry} {ep : Nat}, s.heap.get? b = some o → o.data = .dict es ep → H b = none := fun {b o es ep} e d => free e (fun us n z => by rw [d] at z; cases z) fun z => by
    rw [d] at z
    cases z
  have freeK : ∀ b o, K.lookup b = some o → H b = none := fun b o e => by
    rcases cas b with ⟨h1, _⟩ | ⟨_, h2, h3, _⟩ | h1
    · rw [kT b h1] at e
      cases e
    · subst h2
      rw [h3] at e
      cases e
    · exact h1
  have nsB : ∀ {b : Addr} {m : Str → Option Value}, s.heap.Ns b m → (hidT s.heap H).Ns b m := by
    rintro b m ⟨o, es, ep, e, d, rest⟩
    exact ⟨o, es, ep, hidT_get e (freeD e d), d, rest⟩
  have kinB : K.In (hidT s.heap H) := fun b o e => hidT_get (kin b o e) (freeK b o e)
  have md : L2.Mod K mg (hidT s.heap H) := by
    obtain ⟨mc, l1, l2⟩ := nolim
    exact ⟨kinB, nsB gns, ⟨mb, nsB bns, bok⟩, ⟨mc, nsB l1, l2⟩⟩
  have tb : ∀ c ∈ cs, TabB (hidT s.heap H) mg c.1 c.2 := fun c hc => by
    have tc := tabs c hc
    refine ⟨?_, ?_, fun z => ?_⟩
    · obtain ⟨o, us, fi, tf, fl, tg, inF, tx, tt, e1, r1, r2, r3, r4, r5, r6, r7, r8, ne⟩ := heads c hc
      refine ⟨o, us, fi, tf, fl, tg, inF, tx, tt, hidT_get e1 (free e1 (fun vs n z => ?_) fun z => ?_), r1, r2, r3, r4, r5, r6, r7, r8, ne⟩
      · rw [r2] at z
        cases z
      · rw [r2] at z
        cases z
        simp at r3
    · obtain ⟨m, ob, b1, b2, b3, b4, b5, b6⟩ := bm
      refine ⟨m, ob, b1, b2, fun z => ?_, fun z => ?_, hidT_get b3 (free b3 (fun us n z => by rw [b6] at z; cases z) fun z => by rw [b6] at z; cases z), b4, b5, b6⟩
      · obtain ⟨o, es, ep, e, d, _⟩ := gns
        rw [z, e] at b3
        cases b3
        rw [d] at b6
        cases b6
      · rw [z, tc] at b3
        cases b3
        cases b6
    · obtain ⟨o, es, ep, e, d, _⟩ := gns
      rw [z, tc] at e
      cases e
      cases d
  have env : Env0 P w K mg (hidT s.heap H) callerA [] s H := by
    refine ⟨rfl, md, fun b o e => of_hidT e, Nat.le_of_eq (hidT_size _ _), trivial, fun b hb => ?_, hok, .of_eq ng⟩
    have hb : b ∈ ([] : List Addr) := hb
    cases hb
  refine codeAny_mono ((F _ kinB (nsB gns) tb).goes callerA [] s H ⟨[.ref a], []⟩ [.ref a] [.ref a] _ _ out rfl room env (bind s (.ref a)) (.cons rfl .nil) (want H (fun c hc => by rw [← hB]; exact begH_T (inT c hc)) sq)) fun r s' h => ?_
  cases r with
  | error e => exact (noX H e s' h).elim
  | ok fl =>
    cases fl with
    | next => exact h.elim
    | brk => exact h.elim
    | cont => exact h.elim
    | ret u =>
      obtain ⟨v, H', os, bare, un, hok', rv, rfl⟩ := h
      obtain rfl : u = Value.bool true := rv
      have stays : ∀ b o, b ∉ T → s.heap.get? b = some o → s'.heap.get? b = some o := fun b o nb e => by
        rcases cas b with ⟨h1, _⟩ | ⟨_, h2, _, h4⟩ | h1
        · exact absurd h1 nb
        · obtain ⟨g1, _⟩ := hok b _ h4
          obtain ⟨g2, _⟩ := hok' b _ (un.frzs b _ _ h4)
          exact (e.symm.trans g1) ▸ g2
        · exact un.keep b o e h1 (fun z => by have z : b ∈ ([] : List Addr) := z; cases z) (by simp)
      have grows : ∀ b ∈ T, ∃ more : Array Value, s'.heap.get? b = some { cls := .none, data := .fields more } := fun b hb => by
        obtain ⟨more, z⟩ := un.tbls b #[] (by rw [← hB]; exact begH_T hb)
        exact ⟨_, hok' b _ z⟩
      refine ⟨rfl, ⟨fun b o e => ?_, fun b o e => ?_⟩, os, bare⟩
      · by_cases hb : b ∈ T
        · have hb' := hb
          rw [← hT] at hb'
          obtain ⟨c, hc, rfl⟩ := List.mem_map.mp hb'
          obtain ⟨more, hm⟩ := grows _ hb
          rw [tabs c hc] at e
          cases e
          exact .inr (.inl ⟨((heads c hc).tab (tabs c hc)).isCodeTable, rfl, #[], more, rfl, by rw [Array.empty_append]; exact hm⟩)
        · exact .inl (stays b o hb e)
      · by_cases hb : b ∈ T
        · obtain ⟨more, hm⟩ := grows b hb
          exact ⟨_, hm⟩
        · exact ⟨o, stays b o hb e⟩
theorem ofPys_ints : ∀ ns : List Int, PySem.W.ofPys (ns.map PyData.int) = ns.map PySem.W.WData.int
  | [] => by simp only [List.map_nil, PySem.W.ofPys]
  | m :: ns => by simp only [List.map_cons, PySem.W.ofPys, PySem.W.ofPy, ofPys_ints ns]
theorem ofPy_ints (ns : List Int) : PySem.W.ofPy (PyData.list (ns.map PyData.int)) = .list (ns.map PySem.W.WData.int) := by
  simp only [PySem.W.ofPy, ofPys_ints]
/-- what the law promises, t tokens out -/
def LawN (l : PySem.W.OpenLaw) (w : World) (K : PySem.W.Frag) (CX : CXT) (t k n : Nat) (x : Str) (mg : Str → Option Value) (fa : Addr) (h : Heap) : Prop :=
  ∃ (fd : FuncData) (cs : List (Addr × Addr)) (sp : Sp), ((∀ c ∈ cs, h.get? c.2 = some { cls := .none, data := .fields #[] }) ∧ (∀ c ∈ cs, K.lookup c.2 = none) ∧ ∀ c ∈ cs, PySem.W.CodeHd h c.1 c.2) ∧ (∀ (s : Shared) (u : Value), BindsTo s fd ⟨[u], []⟩ [(x, u)]) ∧
    (∀ (H : Hp) (a : Addr) (ns : List Int), ns.length ≤ n → (∀ c ∈ cs, H c.2 = some (.tbl #[])) → SqL K H a (ns.map V.int) → sp [.ref a] H (fun v _ => v = .bl true) fun _ _ _ => False) ∧
    ∀ base : Heap, K.In base → base.Ns mainGlobals mg → (∀ c ∈ cs, TabB base mg c.1 c.2) → FnN t l.prog w K mg base CX k fa fd [x] sp
theorem walk_N {l : PySem.W.OpenLaw} {n k sz t : Nat} {q : Program} {loose : List Str} {XP : (Str → Option Value) → Heap → Prop} {d : DefRec} {K : Params → PySem.W.Frag} {as : List Addr} {CX : World → CXT} {x : Str}
    (most : l.most = some n) (small : n ≤ sizeLine) (nodef : d.params.defaults = []) (room : Room k callerA) (keys : ∀ P, as = (K P).map (·.1))
    (F : ∀ (w : World) (mg : Str → Option Value) (fa : Addr) (h : Heap), (K w.params).In h → h.Ns mainGlobals mg → mg d.name = some (.ref fa) → LawN l w (K w.params) (CX w) t k n x mg fa h)
    (noX : ∀ (w : World) (H : Hp) (s : Shared) (e : Value) (s' : Shared), CX w [] H s (fun _ _ _ => False) e s' → False) :
    PySem.W.WalkX q loose XP (PySem.W.X.obsZ as) (PySem.W.X.valZ K sz t) l.row.toRowW d [] (fun f vs => PySem.call f vs) := by
  intro w s₀ s₁ mg mb G y fa o pm cd doc dV kV ho hd hcd hD atL ng args vals bs L pre lay rd wl lo
  obtain ⟨_, inK, _, tk⟩ := PySem.W.X.z_facts keys y
  have frag : (K w.params).In s₁.heap := PySem.W.InK.keeps w _ _ inK L.keeps
  obtain rfl : dV = .none := PySem.W.Dflts.none hD nodef
  obtain rfl : kV = .none := PySem.W.Dflts.noKw hD
  obtain ⟨a, vs, ns, rfl, rfl, scr, nums, len⟩ := Att.script_of most pre wl
  rw [← ofPy_ints] at L
  have out : t ≤ s₁.toks := PySem.W.X.script_toks L tk
  rw [ofPy_ints] at L
  obtain ⟨fd, cs, sp, ⟨t1, t2, t3⟩, bind, want, go⟩ := F w mg fa _ frag G.T.g atL
  refine PySem.W.enter_call (codeAny_mono (law_N out frag G.T.g G.T.b G.T.builtins G.T.nolimit ng t1 t2 t3 G.T.bmain scr nums (Nat.le_trans len small) room go bind (fun H h1 h2 => want H a ns len h1 h2) fun H e s' => noX w H s₁ e s') fun r s' z => ?_)
  obtain ⟨rfl, z2, z3, z4⟩ := z
  exact ⟨.inl ⟨.bool true, .bool true, [], rfl, fun _ => rfl, .bool true, Att.post_true l _, fun _ => ⟨List.Pairwise.nil, fun _ hm => (nomatch hm)⟩⟩, z2, z3, z4⟩
end FpT

set_option Elab.async false
set_option linter.all false
set_option maxRecDepth 100000
set_option maxHeartbeats 4000000
/-! What text.replace tells, sign by sign; stuffing. -/
namespace Fp
open PySem
--PURE
/-- y replaced by z from the left, e signs of what was found being passed over still -/
def rplE (y z : List Nat) : Nat → List Nat → List Nat
  | _, [] => []
  | e + 1, _ :: l => rplE y z e l
  | 0, c :: l => if y.isPrefixOf (c :: l) = true then z ++ rplE y z (y.length - 1) l else c :: rplE y z 0 l
def rpl (y z l : List Nat) : List Nat := rplE y z 0 l
theorem rplE_drop (y z : List Nat) : ∀ (e : Nat) (l : List Nat), rplE y z e l = rplE y z 0 (l.drop e)
  | 0, _ => rfl
  | e + 1, [] => by simp [rplE]
  | e + 1, c :: l => by
    show rplE y z e l = _
    rw [rplE_drop y z e l, List.drop_succ_cons]
theorem rpl_hit {y z l : List Nat} (n : y ≠ []) : rpl y z (y ++ l) = z ++ rpl y z l := by
  obtain ⟨c, r, rfl⟩ := List.exists_cons_of_ne_nil n
  unfold rpl
  show (if (c :: r).isPrefixOf (c :: (r ++ l)) = true then z ++ rplE (c :: r) z r.length (r ++ l) else _) = _
  have p : (c :: r).isPrefixOf (c :: (r ++ l)) = true := List.isPrefixOf_iff_prefix.mpr ⟨l, rfl⟩
  rw [if_pos p, rplE_drop, List.drop_left]
theorem rpl_miss {y z l : List Nat} {c : Nat} (h : ¬ y <+: c :: l) : rpl y z (c :: l) = c :: rpl y z l := by
  unfold rpl
  show (if y.isPrefixOf (c :: l) = true then _ else _) = _
  rw [if_neg fun z => h (List.isPrefixOf_iff_prefix.mp z)]
theorem rpl_nil {y z : List Nat} : rpl y z [] = [] := rfl
/-! ### stuffing -/
def stf : Nat → List Nat → List Nat
  | _, [] => []
  | k, c :: l => if c = 49 then (if k = 4 then 49 :: 48 :: stf 0 l else 49 :: stf (k + 1) l) else c :: stf 0 l
def ons (k : Nat) : List Nat := List.replicate k 49
theorem ons_succ (k : Nat) (l : List Nat) : ons k ++ 49 :: l = ons (k + 1) ++ l := by
  unfold ons
  rw [List.replicate_succ', List.append_assoc]
  rfl
theorem ons_pre {k m c : Nat} {l r : List Nat} (h : k < m) (n : c ≠ 49) : ¬ ons m ++ r <+: ons k ++ c :: l := by
  rintro ⟨t, e⟩
  have e1 := congrArg (fun x => x[k]?) e
  simp only [List.append_assoc] at e1
  unfold ons at e1
  rw [List.getElem?_append_left (by rw [List.length_replicate]; exact h), List.getElem?_append_right (by rw [List.length_replicate]; exact Nat.le_refl _)] at e1
  simp [List.length_replicate, h] at e1
  exact n e1.symm
theorem ons_pre0 {k m : Nat} {r : List Nat} (h : k < m) : ¬ ons m ++ r <+: ons k := by
  intro p
  have := p.length_le
  unfold ons at this
  rw [List.length_append, List.length_replicate, List.length_replicate] at this
  omega
/-- ones too few are left as they stand -/
theorem rpl_ons {m : Nat} {r z : List Nat} : ∀ {k : Nat}, k < m → ∀ {l : List Nat}, (∀ j, j ≤ k → ¬ ons m ++ r <+: ons j ++ l) → rpl (ons m ++ r) z (ons k ++ l) = ons k ++ rpl (ons m ++ r) z l
  | 0, _, l, _ => rfl
  | k + 1, h, l, n => by
    have e : ons (k + 1) ++ l = 49 :: (ons k ++ l) := rfl
    rw [e, rpl_miss (by rw [← e]; exact n (k + 1) (Nat.le_refl _)), rpl_ons (by omega) fun j hj => n j (by omega)]
    rfl
theorem rpl_other {m k c : Nat} {r z l : List Nat} (h : k < m) (n : c ≠ 49) : rpl (ons m ++ r) z (ons k ++ c :: l) = ons k ++ c :: rpl (ons m ++ r) z l := by
  rw [rpl_ons h fun j hj => ons_pre (by omega) n]
  rw [rpl_miss (ons_pre (k := 0) (by omega) n)]
theorem rpl_end {m k : Nat} {r z : List Nat} (h : k < m) : rpl (ons m ++ r) z (ons k) = ons k := by
  have e := rpl_ons (m := m) (r := r) (z := z) h (l := []) fun j hj => by
    rw [List.append_nil]
    exact ons_pre0 (by omega)
  rw [List.append_nil, rpl_nil, List.append_nil] at e
  exact e
theorem stf_rpl : ∀ (l : List Nat) {k : Nat}, k ≤ 4 → rpl (ons 5) (ons 5 ++ [48]) (ons k ++ l) = ons k ++ stf k l
  | [], k, h => by
    have e := rpl_end (m := 5) (k := k) (r := []) (z := ons 5 ++ [48]) (by omega)
    rw [List.append_nil] at e
    rw [List.append_nil, e]
    show _ = ons k ++ []
    rw [List.append_nil]
  | c :: l, k, h => by
    by_cases c1 : c = 49
    · subst c1
      by_cases k4 : k = 4
      · subst k4
        have s : stf 4 (49 :: l) = 49 :: 48 :: stf 0 l := rfl
        have e0 := stf_rpl l (k := 0) (by omega)
        rw [show ons 0 ++ l = l from rfl, show ons 0 ++ stf 0 l = stf 0 l from rfl] at e0
        rw [s, ons_succ, ons_succ, rpl_hit (by decide), e0, List.append_assoc]
        rfl
      · have s : stf k (49 :: l) = 49 :: stf (k + 1) l := by
          show (if (49 : Nat) = 49 then (if k = 4 then _ else _) else _) = _
          rw [if_pos rfl, if_neg k4]
        rw [s, ons_succ, ons_succ, stf_rpl l (by omega)]
    · have s : stf k (c :: l) = c :: stf 0 l := by
        show (if c = 49 then _ else _) = _
        rw [if_neg c1]
      have e := rpl_other (m := 5) (k := k) (r := []) (z := ons 5 ++ [48]) (l := l) (by omega) c1
      rw [List.append_nil] at e
      rw [s, e]
      have e0 := stf_rpl l (k := 0) (by omega)
      rw [show ons 0 ++ l = l from rfl, show ons 0 ++ stf 0 l = stf 0 l from rfl] at e0
      rw [e0]
theorem unstf_rpl : ∀ (l : List Nat) {k : Nat}, k ≤ 4 → rpl (ons 5 ++ [48]) (ons 5) (ons k ++ stf k l) = ons k ++ l
  | [], k, h => by
    show rpl _ _ (ons k ++ []) = ons k ++ []
    rw [List.append_nil, rpl_end (by omega)]
  | c :: l, k, h => by
    by_cases c1 : c = 49
    · subst c1
      by_cases k4 : k = 4
      · subst k4
        have s : stf 4 (49 :: l) = 49 :: 48 :: stf 0 l := rfl
        have e : ons 4 ++ stf 4 (49 :: l) = (ons 5 ++ [48]) ++ stf 0 l := rfl
        rw [e, rpl_hit (by decide), ons_succ]
        have e0 := unstf_rpl l (k := 0) (by omega)
        rw [show ons 0 ++ l = l from rfl, show ons 0 ++ stf 0 l = stf 0 l from rfl] at e0
        rw [e0]
      · have s : stf k (49 :: l) = 49 :: stf (k + 1) l := by
          show (if (49 : Nat) = 49 then (if k = 4 then _ else _) else _) = _
          rw [if_pos rfl, if_neg k4]
        rw [s, ons_succ, ons_succ, unstf_rpl l (by omega)]
    · have s : stf k (c :: l) = c :: stf 0 l := by
        show (if c = 49 then _ else _) = _
        rw [if_neg c1]
      rw [s, rpl_other (by omega) c1]
      have e0 := unstf_rpl l (k := 0) (by omega)
      rw [show ons 0 ++ l = l from rfl, show ons 0 ++ stf 0 l = stf 0 l from rfl] at e0
      rw [e0]
theorem stf_len : ∀ (l : List Nat) (k : Nat), (stf k l).length ≤ 2 * l.length
  | [], _ => Nat.le_refl _
  | c :: l, k => by
    show (if c = 49 then (if k = 4 then 49 :: 48 :: stf 0 l else 49 :: stf (k + 1) l) else c :: stf 0 l).length ≤ _
    have h0 := stf_len l 0
    have h1 := stf_len l (k + 1)
    split
    · split <;> simp only [List.length_cons] <;> omega
    · simp only [List.length_cons]
      omega
/-- no six ones together -/
theorem stf_six : ∀ (l : List Nat) {k : Nat}, k ≤ 4 → ∀ i, ¬ ons 6 <+: (ons k ++ stf k l).drop i
  | [], k, h, i => fun p => by
    have e := p.length_le
    rw [List.length_drop] at e
    show False
    have e2 : (ons k ++ stf k []).length = k := by
      show (ons k ++ []).length = k
      simp [ons]
    rw [e2] at e
    simp [ons] at e
    omega
  | c :: l, k, h, i => by
    have one : ∀ (m c : Nat) (r : List Nat), m ≤ 5 → c ≠ 49 → (∀ i, ¬ ons 6 <+: r.drop i) → ∀ i, ¬ ons 6 <+: (ons m ++ c :: r).drop i := by
      intro m c r hm hc hr i p
      by_cases him : i ≤ m
      · have e : (ons m ++ c :: r).drop i = ons (m - i) ++ c :: r := by
          rw [List.drop_append_of_le_length (by simp [ons]; exact him)]
          congr 1
          unfold ons
          rw [List.drop_replicate]
        rw [e] at p
        have := ons_pre (k := m - i) (m := 6) (r := []) (l := r) (by omega) hc
        rw [List.append_nil] at this
        exact this p
      · have e : (ons m ++ c :: r).drop i = r.drop (i - m - 1) := by
          rw [List.drop_append]
          have e1 : (ons m).drop i = [] := List.drop_eq_nil_of_le (by simp [ons]; omega)
          have e2 : i - (ons m).length = (i - m - 1) + 1 := by
            simp [ons]
            omega
          rw [e1, e2, List.drop_succ_cons]
          rfl
        rw [e] at p
        exact hr _ p
    have i0 : ∀ i, ¬ ons 6 <+: (stf 0 l).drop i := fun i => stf_six l (k := 0) (by omega) i
    by_cases c1 : c = 49
    · subst c1
      by_cases k4 : k = 4
      · subst k4
        have e : ons 4 ++ stf 4 (49 :: l) = ons 5 ++ 48 :: stf 0 l := rfl
        rw [e]
        exact one 5 48 _ (by omega) (by decide) i0 i
      · have s : stf k (49 :: l) = 49 :: stf (k + 1) l := by
          show (if (49 : Nat) = 49 then (if k = 4 then _ else _) else _) = _
          rw [if_pos rfl, if_neg k4]
        rw [s, ons_succ]
        exact stf_six l (by omega) i
    · have s : stf k (c :: l) = c :: stf 0 l := by
        show (if c = 49 then _ else _) = _
        rw [if_neg c1]
      rw [s]
      exact one k c _ (by omega) c1 i0 i
/-! ### replace, by its places -/
def occR (y : List Nat) : Nat → Nat → List Nat → List Nat
  | _, _, [] => []
  | e + 1, i, _ :: r => occR y e (i + 1) r
  | 0, i, c :: r => if y.isPrefixOf (c :: r) = true then i :: occR y (y.length - 1) (i + 1) r else occR y 0 (i + 1) r
def ptsF (l : List Nat) (w : Nat) : Nat → List Nat → List Nat × List (List Nat)
  | a, [] => ((l.drop a).take (l.length - a), [])
  | a, c :: r => ((l.drop a).take (c - a), (ptsF l w (c + w) r).1 :: (ptsF l w (c + w) r).2)
def jnF (z : List Nat) (p : List Nat × List (List Nat)) : List Nat := p.1 ++ p.2.flatMap fun q => z ++ q
theorem jn_occ {y z l : List Nat} (n : y ≠ []) : ∀ (r : List Nat) (e i a : Nat), r = l.drop i → i ≤ l.length → (a ≤ i ∨ a = i + e) → (0 < e → a = i + e) → jnF z (ptsF l y.length a (occR y e i r)) = (l.drop a).take (i - a) ++ rplE y z e r
  | [], e, i, a, hr, hi, ha, he => by
    have hn : i = l.length := by
      have := congrArg List.length hr
      rw [List.length_drop] at this
      simp at this
      omega
    subst hn
    show jnF z ((l.drop a).take (l.length - a), []) = (l.drop a).take (l.length - a) ++ []
    unfold jnF
    rfl
  | c :: r, e + 1, i, a, hr, hi, ha, he => by
    have ha' := he (by omega)
    have il : i < l.length := by
      have := congrArg List.length hr
      rw [List.length_drop] at this
      simp at this
      omega
    have hr' : r = l.drop (i + 1) := by
      rw [← List.drop_drop, ← hr]
      rfl
    show jnF z (ptsF l y.length a (occR y e (i + 1) r)) = (l.drop a).take (i - a) ++ rplE y z e r
    rw [jn_occ n r e (i + 1) a hr' (by omega) (.inr (by omega)) (fun _ => by omega)]
    rw [show i + 1 - a = 0 by omega, show i - a = 0 by omega]
  | c :: r, 0, i, a, hr, hi, ha, he => by
    have ha' : a ≤ i := by omega
    have il : i < l.length := by
      have := congrArg List.length hr
      rw [List.length_drop] at this
      simp at this
      omega
    have hr' : r = l.drop (i + 1) := by
      rw [← List.drop_drop, ← hr]
      rfl
    have wpos : 0 < y.length := List.length_pos_iff.mpr n
    show jnF z (ptsF l y.length a (if y.isPrefixOf (c :: r) = true then i :: occR y (y.length - 1) (i + 1) r else occR y 0 (i + 1) r)) = (l.drop a).take (i - a) ++ (if y.isPrefixOf (c :: r) = true then z ++ rplE y z (y.length - 1) r else c :: rplE y z 0 r)
    by_cases p : y.isPrefixOf (c :: r) = true
    · rw [if_pos p, if_pos p]
      have e := jn_occ (z := z) n r (y.length - 1) (i + 1) (i + y.length) hr' (by omega) (.inr (by omega)) (fun _ => by omega)
      rw [show i + 1 - (i + y.length) = 0 by omega, List.take_zero, List.nil_append] at e
      rw [← e]
      show (l.drop a).take (i - a) ++ (((ptsF l y.length (i + y.length) _).1 :: (ptsF l y.length (i + y.length) _).2).flatMap fun q => z ++ q) = _
      rw [List.flatMap_cons]
      unfold jnF
      rw [List.append_assoc]
    · rw [if_neg p, if_neg p, jn_occ n r 0 (i + 1) a hr' (by omega) (.inl (by omega)) (fun h => by omega)]
      have e : (l.drop a).take (i + 1 - a) = (l.drop a).take (i - a) ++ [c] := by
        rw [show i + 1 - a = (i - a) + 1 by omega, List.take_add_one]
        congr 1
        rw [List.getElem?_drop, show a + (i - a) = i by omega]
        have := congrArg (fun x => x[0]?) hr
        simp only [List.getElem?_cons_zero, List.getElem?_drop, Nat.add_zero] at this
        rw [← this]
        rfl
      rw [e, List.append_assoc]
      rfl
--END
open Builtin Builtin.Str StrLaws in
theorem occ_run {l yl : List Nat} (n : yl ≠ []) : ∀ (r : List Nat) (i : Nat) (arr : Array Nat) (f : Nat), r = l.drop i → i ≤ l.length → arr.size ≤ i →
    (forIn (List.range' i (l.length + 1 - i)) (arr, f) (occBody (sOf l) (sOf yl) l.length (l.length + 1))).run.fst.toList = arr.toList ++ occR yl (f - i) i r
  | [], i, arr, f, hr, hi, hs => by
    have hn : i = l.length := by
      have := congrArg List.length hr
      rw [List.length_drop] at this
      simp at this
      omega
    have wpos : 0 < yl.length := List.length_pos_iff.mpr n
    rw [show l.length + 1 - i = 1 by omega]
    rw [show List.range' i 1 = [i] from rfl, List.forIn_cons]
    unfold occBody
    rw [if_neg (by rw [sOf_len]; omega)]
    show arr.toList = arr.toList ++ occR yl (f - i) i []
    rw [show occR yl (f - i) i [] = [] by unfold occR; rfl, List.append_nil]
  | c :: r, i, arr, f, hr, hi, hs => by
    have il : i < l.length := by
      have := congrArg List.length hr
      rw [List.length_drop] at this
      simp at this
      omega
    have hr' : r = l.drop (i + 1) := by
      rw [← List.drop_drop, ← hr]
      rfl
    have sub : subAt (sOf l) (sOf yl) i = yl.isPrefixOf (c :: r) := by
      rw [subAt_eq, sOf_list, sOf_list, sOf_len, ← hr, Bool.eq_iff_iff, List.isPrefixOf_iff_prefix, List.prefix_iff_eq_take, beq_iff_eq]
      exact ⟨Eq.symm, Eq.symm⟩
    rw [show l.length + 1 - i = (l.length + 1 - (i + 1)) + 1 by omega, List.range'_succ, List.forIn_cons]
    unfold occBody
    by_cases hf : f ≤ i
    · rw [show f - i = 0 by omega]
      by_cases p : yl.isPrefixOf (c :: r) = true
      · have len : yl.length ≤ (c :: r).length := (List.isPrefixOf_iff_prefix.mp p).length_le
        have lenr : (c :: r).length = l.length - i := by rw [hr, List.length_drop]
        rw [if_pos ⟨⟨⟨by show arr.size < _; omega, hf⟩, by rw [sOf_len]; omega⟩, by rw [sub]; exact p⟩]
        have e := occ_run n r (i + 1) (arr.push i) (i + yl.length) hr' (by omega) (by rw [Array.size_push]; omega)
        rw [show occR yl 0 i (c :: r) = i :: occR yl (yl.length - 1) (i + 1) r by
          show (if yl.isPrefixOf (c :: r) = true then _ else _) = _
          rw [if_pos p]]
        rw [show i + yl.length - (i + 1) = yl.length - 1 by omega, Array.toList_push, List.append_assoc] at e
        rw [← show i + (sOf yl).length = i + yl.length by rw [sOf_len]] at e
        exact e
      · rw [if_neg fun z => p (by rw [← sub]; exact z.2)]
        have e := occ_run n r (i + 1) arr f hr' (by omega) (by omega)
        rw [show f - (i + 1) = 0 by omega] at e
        rw [show occR yl 0 i (c :: r) = occR yl 0 (i + 1) r by
          show (if yl.isPrefixOf (c :: r) = true then _ else _) = _
          rw [if_neg p]]
        exact e
    · rw [if_neg fun z => hf z.1.1.2]
      have e := occ_run n r (i + 1) arr f hr' (by omega) (by omega)
      obtain ⟨g, hg⟩ : ∃ g, f - i = g + 1 := ⟨f - i - 1, by omega⟩
      rw [show f - (i + 1) = g by omega] at e
      rw [hg, show occR yl (g + 1) i (c :: r) = occR yl g (i + 1) r from rfl]
      exact e
open Builtin Builtin.Str StrLaws in
theorem occ_is {l yl : List Nat} (n : yl ≠ []) : occurrences (sOf l) (sOf yl) 0 (sOf l).length ((sOf l).length + 1) = occR yl 0 0 l := by
  rw [occ_eq, sOf_len]
  have e := occ_run n l 0 #[] 0 rfl (Nat.zero_le _) (Nat.le_refl _)
  rw [Nat.sub_zero, Nat.sub_zero] at e
  exact e
theorem fold_list (g : Str) : ∀ (ps : List Str) (acc : Array Nat), (ps.foldl (fun acc p => acc ++ g.cps ++ p.cps) acc).toList = acc.toList ++ ps.flatMap fun p => g.cps.toList ++ p.cps.toList
  | [], acc => by simp
  | p :: ps, acc => by
    rw [List.foldl_cons, fold_list g ps, List.flatMap_cons]
    simp [List.append_assoc]
open Builtin Builtin.Str StrLaws in
theorem parts_is (l : List Nat) (w : Nat) : ∀ (cuts : List Nat) (a : Nat), ∃ p ps, partsFrom (sOf l) w a cuts = p :: ps ∧ p.cps.toList = (ptsF l w a cuts).1 ∧ ps.map (fun q => q.cps.toList) = (ptsF l w a cuts).2
  | [], a => ⟨_, _, rfl, by rw [strSub_toList, sOf_list, sOf_len]; rfl, rfl⟩
  | c :: r, a => by
    obtain ⟨p, ps, e1, e2, e3⟩ := parts_is l w r (c + w)
    refine ⟨_, _, rfl, by rw [strSub_toList, sOf_list]; rfl, ?_⟩
    rw [e1]
    show p.cps.toList :: ps.map _ = _
    rw [e2, e3]
    rfl
open Builtin Builtin.Str StrLaws in
/-- what replace tells -/
theorem replace_is {l yl zl : List Nat} (n : yl ≠ []) : Txt.replace (sOf l) (sOf yl) (sOf zl) = sOf (rpl yl zl l) := by
  have key : (glued (sOf zl) (partsBetween (sOf l) (occR yl 0 0 l) yl.length)).cps.toList = rpl yl zl l := by
    rw [partsBetween_eq]
    obtain ⟨p, ps, e1, e2, e3⟩ := parts_is l yl.length (occR yl 0 0 l) 0
    rw [e1]
    show (ps.foldl (fun acc p => acc ++ (sOf zl).cps ++ p.cps) p.cps).toList = _
    rw [fold_list, e2, sOf_list]
    have e := jn_occ (z := zl) n l 0 0 0 rfl (Nat.zero_le _) (.inl (Nat.le_refl _)) (fun h => by omega)
    unfold jnF at e
    rw [← e3, List.flatMap_map] at e
    rw [e]
    rfl
  have toS : ∀ (x : Str) (m : List Nat), x.cps.toList = m → x = sOf m := fun x m h => by
    cases x with
    | mk a =>
      subst h
      simp [sOf]
  unfold Txt.replace
  rw [occ_is n, sOf_len]
  split
  · rename_i h
    have wpos : 0 < yl.length := List.length_pos_iff.mpr n
    have h0 : occR yl 0 0 l = [] := by
      simp only [Bool.or_eq_true, Bool.and_eq_true, beq_iff_eq, List.isEmpty_iff] at h
      rcases h with h | h
      · exact h
      · omega
    rw [h0] at key
    rw [← key]
    refine toS _ _ ?_
    rw [partsBetween_eq]
    show (sOf l).cps.toList = (strSub (sOf l) 0 (sOf l).length).cps.toList
    rw [strSub_toList, sOf_list, sOf_len]
    simp
  · exact toS _ _ key
end Fp

set_option Elab.async false
set_option linter.all false
set_option maxRecDepth 100000
set_option maxHeartbeats 4000000
/-! text.replace by a constant of the module and a sum with it. -/
namespace FpT
open PySem PySem.Spec PyProof.Rows L2 Fp
theorem add_new {prog : Program} {w : World} {A : Around} {E : Value → Shared → Prop} {s : Shared} {x y : Str} {t u : Tok} {Q : Value → Shared → Prop} (hx : (x.length == 0) = false) (hy : (y.length == 0) = false) (hl : x.length + y.length ≤ sizeLine)
    (h : Q (.str (x ++ y) s.toks) { s with toks := s.toks + 1 }) : wpAny (model prog w) A (binaryOp .Add (.str x t) (.str y u)) Q E s := by
  refine PySem.P.add_str ?_
  rw [hx, hy]
  show (Made.str (x ++ y)).post Q s
  exact ⟨by have e : (x ++ y).length = x.length + y.length := by simp [Str.length, Str.cps_append]
            rw [e]; exact hl, h⟩
section
variable {X : Cx} {n : Nat} {o : Expr} {to : TE} {fx full c : Str} {tF : Tok} {j : Nat} {p1 p2 p3 c0 apos pos : Pos}
/-- text.replace(CONST, CONST + written) -/
theorem ne_rplF (gl : Gl X fx) (at_ : X.mg fx = some (.str full tF)) (t0 : tF ≠ 0) (tn : tF < n) (hx : (full.length == 0) = false) (hc : (c.length == 0) = false) (hl : full.length + c.length ≤ sizeLine) (hyz : (full == full ++ c) = false) (h : NE n X o to) (nd : (fx == ("__debug__" : Str)) = false := by decide)
    (hst : starEach [.Name fx p1, .BinOp (.Name fx p2) .Add (.Constant (.str c) j c0) p3] X.env = [(false, eval (.Name fx p1) X.env), (false, eval (.BinOp (.Name fx p2) .Add (.Constant (.str c) j c0) p3) X.env)] := by rfl)
    (hbase : attributeBase o "replace" X.env (eval o X.env) = eval o X.env := by rfl) (hline : (apos.endLine == pos.line) = true := by rfl) :
    NE n X (.Call (.Attribute o "replace" apos) [.Name fx p1, .BinOp (.Name fx p2) .Add (.Constant (.str c) j c0) p3] [] pos) (tRpl full (full ++ c) to) := by
  refine ⟨fun {pins s σ H Q} k I q => PySem.Call_method2 hbase hst hline (tthn k (h.go k I q) fun w s1 k1 z1 => ?_)⟩
  obtain ⟨x, H1, I1, r1, d, rfl, hb, q1⟩ := z1
  obtain ⟨tx, e⟩ := r1
  subst e
  refine ⟨"str", _, F.plainAttrs_str, F.slot_str_replace, F.type_str_replace, typeIs_str _ _ _, (fun _ e => nomatch e), Calls.callWith_builtin rfl (Calls.evalArgs_plain (Calls.spliced_cons ?_))⟩
  refine ld_glob I1 gl at_ (Calls.spliced_cons (wpAny_BinOp (ld_glob I1 gl at_ (Calls.Constant_str (add_new hx hc hl (Calls.spliced_nil ?_))) nd))) nd
  have n1 : tF ≠ s1.toks + 1 := fun z => Nat.lt_irrefl n (Nat.lt_of_le_of_lt (Nat.le_trans k1 (Nat.le_succ s1.toks)) (by rw [z] at tn; exact tn))
  exact PySem.SC.replace t0 (show s1.toks + 1 ≠ 0 by omega) n1 hyz hb fun t' m => ⟨.str (Txt.replace d full (full ++ c)), H1, I1.tok m, ⟨t', rfl⟩, q1⟩
/-- text.replace(CONST + written, CONST) -/
theorem ne_rplB (gl : Gl X fx) (at_ : X.mg fx = some (.str full tF)) (t0 : tF ≠ 0) (tn : tF < n) (hx : (full.length == 0) = false) (hc : (c.length == 0) = false) (hl : full.length + c.length ≤ sizeLine) (hyz : (full ++ c == full) = false) (h : NE n X o to) (nd : (fx == ("__debug__" : Str)) = false := by decide)
    (hst : starEach [.BinOp (.Name fx p2) .Add (.Constant (.str c) j c0) p3, .Name fx p1] X.env = [(false, eval (.BinOp (.Name fx p2) .Add (.Constant (.str c) j c0) p3) X.env), (false, eval (.Name fx p1) X.env)] := by rfl)
    (hbase : attributeBase o "replace" X.env (eval o X.env) = eval o X.env := by rfl) (hline : (apos.endLine == pos.line) = true := by rfl) :
    NE n X (.Call (.Attribute o "replace" apos) [.BinOp (.Name fx p2) .Add (.Constant (.str c) j c0) p3, .Name fx p1] [] pos) (tRpl (full ++ c) full to) := by
  refine ⟨fun {pins s σ H Q} k I q => PySem.Call_method2 hbase hst hline (tthn k (h.go k I q) fun w s1 k1 z1 => ?_)⟩
  obtain ⟨x, H1, I1, r1, d, rfl, hb, q1⟩ := z1
  obtain ⟨tx, e⟩ := r1
  subst e
  refine ⟨"str", _, F.plainAttrs_str, F.slot_str_replace, F.type_str_replace, typeIs_str _ _ _, (fun _ e => nomatch e), Calls.callWith_builtin rfl (Calls.evalArgs_plain (Calls.spliced_cons ?_))⟩
  refine wpAny_BinOp (ld_glob I1 gl at_ (Calls.Constant_str (add_new hx hc hl (Calls.spliced_cons (ld_glob (I1.tok _) gl at_ (Calls.spliced_nil ?_) nd)))) nd)
  have n1 : s1.toks + 1 ≠ tF := fun z => Nat.lt_irrefl n (Nat.lt_of_le_of_lt (Nat.le_trans k1 (Nat.le_succ s1.toks)) (by rw [← z] at tn; exact tn))
  exact PySem.SC.replace (show s1.toks + 1 ≠ 0 by omega) t0 n1 hyz hb fun t' m => ⟨.str (Txt.replace d (full ++ c) full), H1, I1.tok m, ⟨t', rfl⟩, q1⟩
end
section
variable {X : Cx} {n : Nat}
/-- a for whose body wants tokens -/
theorem ns_for {tg it : Expr} {bd : List Stmt} {wi : TI} {g : TG} {tb : TS} {pos : Pos} (own : PassesOwn (model X.prog X.w) X.A X.env X.xe) (calm : X.calm = true) (hi : PI X tg it wi) (hg : PG X tg g) (hb : NB n X bd tb)
    (fold : ∀ x, foldedSetIterable it X.env x = pure x := by intro _; rfl) : NS n X (.For tg it bd [] pos) (tFor wi g tb) := by
  refine ⟨fun {pins s σ H D} k I q => wpAny_For (tthn k (hi.run pins s σ H _ I q) fun v s1 k1 z1 => tthn k1 z1 fun itv s2 k2 z2 => ?_) fold⟩
  obtain ⟨w, fp, tn, J, H2, e, I2, T, st2, f2, W, ⟨m0, w0⟩, turn⟩ := z2
  subst e
  have okf : ∀ {G : Hp}, (∀ b ∈ fp, G b = none) → ∀ b ∈ fp, FpOk X pins G b := fun h b hb => ⟨h b hb, (f2 b hb).2⟩
  refine codeAny_forLoop_any (fun m sh => ∃ j τ G, n ≤ sh.toks ∧ Inv X pins τ G sh ∧ tn j sh.heap ∧ (∀ b ∈ fp, G b = none) ∧ W j m τ G) ?_ m0 ⟨0, σ, H2, k2, I2, st2, fun b hb => (f2 b hb).1, w0⟩
  rintro m s3 ⟨j, τ, G3, k3, I3, st3, fr3, w3⟩
  rcases turn j m τ G3 w3 with ⟨halt, fin⟩ | ⟨go, N, less, step⟩
  · refine wpAny_passesOwn own (thn (T.done X rfl rfl rfl calm j pins s3 τ G3 X.xe I3 (okf fr3) st3 halt) fun r s4 z4 => ?_)
    obtain ⟨er, I4⟩ := z4
    subst er
    exact wpAny_execs_nil ⟨τ, G3, I4, fin⟩
  · refine wpAny_passesOwn own (tthn k3 (T.item X rfl rfl rfl calm j pins s3 τ G3 X.xe I3 (okf fr3) st3 go) fun r s4 k4 z4 => ?_)
    obtain ⟨u, er, h4⟩ := z4
    subst er
    refine wpAny_passesOwn own (tthn k4 h4 fun _ s5 k5 z5 => ?_)
    obtain ⟨x, G5, I5, r5, y5, st5, fr5⟩ := z5
    have P5 := I5.pinned (okf fr5) (T.obj _ _ st5)
    refine wpAny_passesOwn own (tthn k5 (hg.run _ s5 τ G5 x u _ P5 r5 (step x G5 y5)) fun _ s6 k6 z6 => ?_)
    obtain ⟨τ6, G6, I6, q6⟩ := z6
    refine wpAny_passesOwn own (tthn k6 (hb.go k6 I6 q6) fun f s7 k7 z7 => ?_)
    have round : ∀ {τ7 : L2.St} {G7 : Hp}, Inv X (pins ++ pinsAt fp s5.heap) τ7 G7 s7 → N τ7 G7 → ∃ m', m' < m ∧ ∃ j τ G, n ≤ s7.toks ∧ Inv X pins τ G s7 ∧ tn j s7.heap ∧ (∀ b ∈ fp, G b = none) ∧ W j m' τ G := fun {τ7 G7} I7 n7 => by
      obtain ⟨m', lt, w7⟩ := less τ7 G7 n7
      refine ⟨m', lt, j + 1, τ7, G7, k7, I7.unpinned, T.keep _ _ _ st5 fun b hb o e => (I7.pin (b, o) (List.mem_append_right _ (List.mem_append_right _ (mem_pinsAt hb e)))).1, fun b hb => ?_, w7⟩
      obtain ⟨o, e, _⟩ := T.obj _ _ st5 b hb
      exact (I7.pin (b, o) (List.mem_append_right _ (List.mem_append_right _ (mem_pinsAt hb e)))).2.1
    cases f with
    | next =>
      obtain ⟨τ7, G7, I7, n7⟩ := z7
      exact round I7 n7
    | cont =>
      obtain ⟨τ7, G7, I7, n7⟩ := z7
      exact round I7 n7
    | brk =>
      obtain ⟨τ7, G7, I7, q7⟩ := z7
      exact ⟨τ7, G7, I7.unpinned, q7⟩
    | ret v =>
      obtain ⟨x7, τ7, G7, I7, r7, q7⟩ := z7
      exact ⟨x7, τ7, G7, I7.unpinned, r7, q7⟩
theorem nb_nil : NB n X [] tNext := NB.of pss_nil
theorem nb_one {st : Stmt} {t : TS} (h : NS n X st t) : NB n X [st] t := by
  refine ⟨fun {pins s σ H D} k I q => wpAny_execs_cons (thn (h.go k I q) fun f s1 z => ?_)⟩
  cases f with
  | next => exact wpAny_execs_nil z
  | ret w => exact z
  | brk => exact z
  | cont => exact z
end
theorem FnN.mono {n m : Nat} {P : Program} {w : World} {K : PySem.W.Frag} {mg : Str → Option Value} {base : Heap} {CX : CXT} {k : Nat} {f : Addr} {fd : FuncData} {ps : List Str} {sp : Sp} (F : FnN n P w K mg base CX k f fd ps sp) (l : n ≤ m) : FnN m P w K mg base CX k f fd ps sp :=
  ⟨F.many, fun A out s H args us vs Q E hn => F.goes A out s H args us vs Q E (Nat.le_trans l hn)⟩
end FpT

set_option Elab.async false
set_option linter.all false
set_option maxRecDepth 100000
set_option maxHeartbeats 4000000
/-! f'{n:08b}' for n below 256. -/
namespace FpT
open PySem PySem.Spec PyProof.Rows L2 Fp
/-- the digits stand as they are written -/
def Eight (n : Nat) : Prop := ∀ t u : Tok, Builtin.«int.__format__» ⟨[.int (n : Int) t, .str (Str.ofString "08b") u], []⟩ = (typeNameOf (.str (Str.ofString "08b") u) >>= fun _ => typeNameOfCut 200 (.int (n : Int) t) >>= fun _ => retStr (sOf (wrB n 8)))
theorem eight_0 : ∀ k : Nat, k < 16 → Eight (0 + k)
  | 0, _ => fun t u => by kernel_rfl
  | 1, _ => fun t u => by kernel_rfl
  | 2, _ => fun t u => by kernel_rfl
  | 3, _ => fun t u => by kernel_rfl
  | 4, _ => fun t u => by kernel_rfl
  | 5, _ => fun t u => by kernel_rfl
  | 6, _ => fun t u => by kernel_rfl
  | 7, _ => fun t u => by kernel_rfl
  | 8, _ => fun t u => by kernel_rfl
  | 9, _ => fun t u => by kernel_rfl
  | 10, _ => fun t u => by kernel_rfl
  | 11, _ => fun t u => by kernel_rfl
  | 12, _ => fun t u => by kernel_rfl
  | 13, _ => fun t u => by kernel_rfl
  | 14, _ => fun t u => by kernel_rfl
  | 15, _ => fun t u => by kernel_rfl
  | k + 16, h => absurd h (by omega)
theorem eight_1 : ∀ k : Nat, k < 16 → Eight (16 + k)
  | 0, _ => fun t u => by kernel_rfl
  | 1, _ => fun t u => by kernel_rfl
  | 2, _ => fun t u => by kernel_rfl
  | 3, _ => fun t u => by kernel_rfl
  | 4, _ => fun t u => by kernel_rfl
  | 5, _ => fun t u => by kernel_rfl
  | 6, _ => fun t u => by kernel_rfl
  | 7, _ => fun t u => by kernel_rfl
  | 8, _ => fun t u => by kernel_rfl
  | 9, _ => fun t u => by kernel_rfl
  | 10, _ => fun t u => by kernel_rfl
  | 11, _ => fun t u => by kernel_rfl
  | 12, _ => fun t u => by kernel_rfl
  | 13, _ => fun t u => by kernel_rfl
  | 14, _ => fun t u => by kernel_rfl
  | 15, _ => fun t u => by kernel_rfl
  | k + 16, h => absurd h (by omega)
theorem eight_2 : ∀ k : Nat, k < 16 → Eight (32 + k)
  | 0, _ => fun t u => by kernel_rfl
  | 1, _ => fun t u => by kernel_rfl
  | 2, _ => fun t u => by kernel_rfl
  | 3, _ => fun t u => by kernel_rfl
  | 4, _ => fun t u => by kernel_rfl
  | 5, _ => fun t u => by kernel_rfl
  | 6, _ => fun t u => by kernel_rfl
  | 7, _ => fun t u => by kernel_rfl
  | 8, _ => fun t u => by kernel_rfl
  | 9, _ => fun t u => by kernel_rfl
  | 10, _ => fun t u => by kernel_rfl
  | 11, _ => fun t u => by kernel_rfl
  | 12, _ => fun t u => by kernel_rfl
  | 13, _ => fun t u => by kernel_rfl
  | 14, _ => fun t u => by kernel_rfl
  | 15, _ => fun t u => by kernel_rfl
  | k + 16, h => absurd h (by omega)
theorem eight_3 : ∀ k : Nat, k < 16 → Eight (48 + k)
  | 0, _ => fun t u => by kernel_rfl
  | 1, _ => fun t u => by kernel_rfl
  | 2, _ => fun t u => by kernel_rfl
  | 3, _ => fun t u => by kernel_rfl
  | 4, _ => fun t u => by kernel_rfl
  | 5, _ => fun t u => by kernel_rfl
  | 6, _ => fun t u => by kernel_rfl
  | 7, _ => fun t u => by kernel_rfl
  | 8, _ => fun t u => by kernel_rfl
  | 9, _ => fun t u => by kernel_rfl
  | 10, _ => fun t u => by kernel_rfl
  | 11, _ => fun t u => by kernel_rfl
  | 12, _ => fun t u => by kernel_rfl
  | 13, _ => fun t u => by kernel_rfl
  | 14, _ => fun t u => by kernel_rfl
  | 15, _ => fun t u => by kernel_rfl
  | k + 16, h => absurd h (by omega)
theorem eight_4 : ∀ k : Nat, k < 16 → Eight (64 + k)
  | 0, _ => fun t u => by kernel_rfl
  | 1, _ => fun t u => by kernel_rfl
  | 2, _ => fun t u => by kernel_rfl
  | 3, _ => fun t u => by kernel_rfl
  | 4, _ => fun t u => by kernel_rfl
  | 5, _ => fun t u => by kernel_rfl
  | 6, _ => fun t u => by kernel_rfl
  | 7, _ => fun t u => by kernel_rfl
  | 8, _ => fun t u => by kernel_rfl
  | 9, _ => fun t u => by kernel_rfl
  | 10, _ => fun t u => by kernel_rfl
  | 11, _ => fun t u => by kernel_rfl
  | 12, _ => fun t u => by kernel_rfl
  | 13, _ => fun t u => by kernel_rfl
  | 14, _ => fun t u => by kernel_rfl
  | 15, _ => fun t u => by kernel_rfl
  | k + 16, h => absurd h (by omega)
theorem eight_5 : ∀ k : Nat, k < 16 → Eight (80 + k)
  | 0, _ => fun t u => by kernel_rfl
  | 1, _ => fun t u => by kernel_rfl
  | 2, _ => fun t u => by kernel_rfl
  | 3, _ => fun t u => by kernel_rfl
  | 4, _ => fun t u => by kernel_rfl
  | 5, _ => fun t u => by kernel_rfl
  | 6, _ => fun t u => by kernel_rfl
  | 7, _ => fun t u => by kernel_rfl
  | 8, _ => fun t u => by kernel_rfl
  | 9, _ => fun t u => by kernel_rfl
  | 10, _ => fun t u => by kernel_rfl
  | 11, _ => fun t u => by kernel_rfl
  | 12, _ => fun t u => by kernel_rfl
  | 13, _ => fun t u => by kernel_rfl
  | 14, _ => fun t u => by kernel_rfl
  | 15, _ => fun t u => by kernel_rfl
  | k + 16, h => absurd h (by omega)
theorem eight_6 : ∀ k : Nat, k < 16 → Eight (96 + k)
  | 0, _ => fun t u => by kernel_rfl
  | 1, _ => fun t u => by kernel_rfl
  | 2, _ => fun t u => by kernel_rfl
  | 3, _ => fun t u => by kernel_rfl
  | 4, _ => fun t u => by kernel_rfl
  | 5, _ => fun t u => by kernel_rfl
  | 6, _ => fun t u => by kernel_rfl
  | 7, _ => fun t u => by kernel_rfl
  | 8, _ => fun t u => by kernel_rfl
  | 9, _ => fun t u => by kernel_rfl
  | 10, _ => fun t u => by kernel_rfl
  | 11, _ => fun t u => by kernel_rfl
  | 12, _ => fun t u => by kernel_rfl
  | 13, _ => fun t u => by kernel_rfl
  | 14, _ => fun t u => by kernel_rfl
  | 15, _ => fun t u => by kernel_rfl
  | k + 16, h => absurd h (by omega)
theorem eight_7 : ∀ k : Nat, k < 16 → Eight (112 + k)
  | 0, _ => fun t u => by kernel_rfl
  | 1, _ => fun t u => by kernel_rfl
  | 2, _ => fun t u => by kernel_rfl
  | 3, _ => fun t u => by kernel_rfl
  | 4, _ => fun t u => by kernel_rfl
  | 5, _ => fun t u => by kernel_rfl
  | 6, _ => fun t u => by kernel_rfl
  | 7, _ => fun t u => by kernel_rfl
  | 8, _ => fun t u => by kernel_rfl
  | 9, _ => fun t u => by kernel_rfl
  | 10, _ => fun t u => by kernel_rfl
  | 11, _ => fun t u => by kernel_rfl
  | 12, _ => fun t u => by kernel_rfl
  | 13, _ => fun t u => by kernel_rfl
  | 14, _ => fun t u => by kernel_rfl
  | 15, _ => fun t u => by kernel_rfl
  | k + 16, h => absurd h (by omega)
theorem eight_8 : ∀ k : Nat, k < 16 → Eight (128 + k)
  | 0, _ => fun t u => by kernel_rfl
  | 1, _ => fun t u => by kernel_rfl
  | 2, _ => fun t u => by kernel_rfl
  | 3, _ => fun t u => by kernel_rfl
  | 4, _ => fun t u => by kernel_rfl
  | 5, _ => fun t u => by kernel_rfl
  | 6, _ => fun t u => by kernel_rfl
  | 7, _ => fun t u => by kernel_rfl
  | 8, _ => fun t u => by kernel_rfl
  | 9, _ => fun t u => by kernel_rfl
  | 10, _ => fun t u => by kernel_rfl
  | 11, _ => fun t u => by kernel_rfl
  | 12, _ => fun t u => by kernel_rfl
  | 13, _ => fun t u => by kernel_rfl
  | 14, _ => fun t u => by kernel_rfl
  | 15, _ => fun t u => by kernel_rfl
  | k + 16, h => absurd h (by omega)
theorem eight_9 : ∀ k : Nat, k < 16 → Eight (144 + k)
  | 0, _ => fun t u => by kernel_rfl
  | 1, _ => fun t u => by kernel_rfl
  | 2, _ => fun t u => by kernel_rfl
  | 3, _ => fun t u => by kernel_rfl
  | 4, _ => fun t u => by kernel_rfl
  | 5, _ => fun t u => by kernel_rfl
  | 6, _ => fun t u => by kernel_rfl
  | 7, _ => fun t u => by kernel_rfl
  | 8, _ => fun t u => by kernel_rfl
  | 9, _ => fun t u => by kernel_rfl
  | 10, _ => fun t u => by kernel_rfl
  | 11, _ => fun t u => by kernel_rfl
  | 12, _ => fun t u => by kernel_rfl
  | 13, _ => fun t u => by kernel_rfl
  | 14, _ => fun t u => by kernel_rfl
  | 15, _ => fun t u => by kernel_rfl
  | k + 16, h => absurd h (by omega)
theorem eight_10 : ∀ k : Nat, k < 16 → Eight (160 + k)
  | 0, _ => fun t u => by kernel_rfl
  | 1, _ => fun t u => by kernel_rfl
  | 2, _ => fun t u => by kernel_rfl
  | 3, _ => fun t u => by kernel_rfl
  | 4, _ => fun t u => by kernel_rfl
  | 5, _ => fun t u => by kernel_rfl
  | 6, _ => fun t u => by kernel_rfl
  | 7, _ => fun t u => by kernel_rfl
  | 8, _ => fun t u => by kernel_rfl
  | 9, _ => fun t u => by kernel_rfl
  | 10, _ => fun t u => by kernel_rfl
  | 11, _ => fun t u => by kernel_rfl
  | 12, _ => fun t u => by kernel_rfl
  | 13, _ => fun t u => by kernel_rfl
  | 14, _ => fun t u => by kernel_rfl
  | 15, _ => fun t u => by kernel_rfl
  | k + 16, h => absurd h (by omega)
theorem eight_11 : ∀ k : Nat, k < 16 → Eight (176 + k)
  | 0, _ => fun t u => by kernel_rfl
  | 1, _ => fun t u => by kernel_rfl
  | 2, _ => fun t u => by kernel_rfl
  | 3, _ => fun t u => by kernel_rfl
  | 4, _ => fun t u => by kernel_rfl
  | 5, _ => fun t u => by kernel_rfl
  | 6, _ => fun t u => by kernel_rfl
  | 7, _ => fun t u => by kernel_rfl
  | 8, _ => fun t u => by kernel_rfl
  | 9, _ => fun t u => by kernel_rfl
  | 10, _ => fun t u => by kernel_rfl
  | 11, _ => fun t u => by kernel_rfl
  | 12, _ => fun t u => by kernel_rfl
  | 13, _ => fun t u => by kernel_rfl
  | 14, _ => fun t u => by kernel_rfl
  | 15, _ => fun t u => by kernel_rfl
  | k + 16, h => absurd h (by omega)
theorem eight_12 : ∀ k : Nat, k < 16 → Eight (192 + k)
  | 0, _ => fun t u => by kernel_rfl
  | 1, _ => fun t u => by kernel_rfl
  | 2, _ => fun t u => by kernel_rfl
  | 3, _ => fun t u => by kernel_rfl
  | 4, _ => fun t u => by kernel_rfl
  | 5, _ => fun t u => by kernel_rfl
  | 6, _ => fun t u => by kernel_rfl
  | 7, _ => fun t u => by kernel_rfl
  | 8, _ => fun t u => by kernel_rfl
  | 9, _ => fun t u => by kernel_rfl
  | 10, _ => fun t u => by kernel_rfl
  | 11, _ => fun t u => by kernel_rfl
  | 12, _ => fun t u => by kernel_rfl
  | 13, _ => fun t u => by kernel_rfl
  | 14, _ => fun t u => by kernel_rfl
  | 15, _ => fun t u => by kernel_rfl
  | k + 16, h => absurd h (by omega)
theorem eight_13 : ∀ k : Nat, k < 16 → Eight (208 + k)
  | 0, _ => fun t u => by kernel_rfl
  | 1, _ => fun t u => by kernel_rfl
  | 2, _ => fun t u => by kernel_rfl
  | 3, _ => fun t u => by kernel_rfl
  | 4, _ => fun t u => by kernel_rfl
  | 5, _ => fun t u => by kernel_rfl
  | 6, _ => fun t u => by kernel_rfl
  | 7, _ => fun t u => by kernel_rfl
  | 8, _ => fun t u => by kernel_rfl
  | 9, _ => fun t u => by kernel_rfl
  | 10, _ => fun t u => by kernel_rfl
  | 11, _ => fun t u => by kernel_rfl
  | 12, _ => fun t u => by kernel_rfl
  | 13, _ => fun t u => by kernel_rfl
  | 14, _ => fun t u => by kernel_rfl
  | 15, _ => fun t u => by kernel_rfl
  | k + 16, h => absurd h (by omega)
theorem eight_14 : ∀ k : Nat, k < 16 → Eight (224 + k)
  | 0, _ => fun t u => by kernel_rfl
  | 1, _ => fun t u => by kernel_rfl
  | 2, _ => fun t u => by kernel_rfl
  | 3, _ => fun t u => by kernel_rfl
  | 4, _ => fun t u => by kernel_rfl
  | 5, _ => fun t u => by kernel_rfl
  | 6, _ => fun t u => by kernel_rfl
  | 7, _ => fun t u => by kernel_rfl
  | 8, _ => fun t u => by kernel_rfl
  | 9, _ => fun t u => by kernel_rfl
  | 10, _ => fun t u => by kernel_rfl
  | 11, _ => fun t u => by kernel_rfl
  | 12, _ => fun t u => by kernel_rfl
  | 13, _ => fun t u => by kernel_rfl
  | 14, _ => fun t u => by kernel_rfl
  | 15, _ => fun t u => by kernel_rfl
  | k + 16, h => absurd h (by omega)
theorem eight_15 : ∀ k : Nat, k < 16 → Eight (240 + k)
  | 0, _ => fun t u => by kernel_rfl
  | 1, _ => fun t u => by kernel_rfl
  | 2, _ => fun t u => by kernel_rfl
  | 3, _ => fun t u => by kernel_rfl
  | 4, _ => fun t u => by kernel_rfl
  | 5, _ => fun t u => by kernel_rfl
  | 6, _ => fun t u => by kernel_rfl
  | 7, _ => fun t u => by kernel_rfl
  | 8, _ => fun t u => by kernel_rfl
  | 9, _ => fun t u => by kernel_rfl
  | 10, _ => fun t u => by kernel_rfl
  | 11, _ => fun t u => by kernel_rfl
  | 12, _ => fun t u => by kernel_rfl
  | 13, _ => fun t u => by kernel_rfl
  | 14, _ => fun t u => by kernel_rfl
  | 15, _ => fun t u => by kernel_rfl
  | k + 16, h => absurd h (by omega)
theorem eight {n : Nat} (h : n < 256) : Eight n := by
  obtain ⟨k, e, hk⟩ : ∃ k, n = 16 * (n / 16) + k ∧ k < 16 := ⟨n % 16, by omega, by omega⟩
  have hb : n / 16 < 16 := by omega
  rw [e]
  generalize n / 16 = b at hb
  match b, hb with
  | 0, _ => exact eight_0 k hk
  | 1, _ => exact eight_1 k hk
  | 2, _ => exact eight_2 k hk
  | 3, _ => exact eight_3 k hk
  | 4, _ => exact eight_4 k hk
  | 5, _ => exact eight_5 k hk
  | 6, _ => exact eight_6 k hk
  | 7, _ => exact eight_7 k hk
  | 8, _ => exact eight_8 k hk
  | 9, _ => exact eight_9 k hk
  | 10, _ => exact eight_10 k hk
  | 11, _ => exact eight_11 k hk
  | 12, _ => exact eight_12 k hk
  | 13, _ => exact eight_13 k hk
  | 14, _ => exact eight_14 k hk
  | 15, _ => exact eight_15 k hk
  | b + 16, h => exact absurd h (by omega)
theorem typeCut {M : Model} {A : Around} {E : Value → Shared → Prop} {s : Shared} {a : Int} {t : Tok} {Q : String → Shared → Prop} (h : ∀ n, Q n s) : wpAny M A (typeNameOfCut 200 (.int a t)) Q E s := by
  unfold typeNameOfCut shownTypeOf
  refine wpAny_bind (wpAny_bind (wpAny_typeOf (typeIs_int s a t) ?_))
  simp only [show (Value.type "int" == Value.type "builtin_function_or_method") = false by decide, Bool.false_eq_true, if_false]
  exact wpAny_pure (wpAny_pure (h _))
theorem gives_08b {n : Nat} (h : n < 256) (t u : Tok) : Gives (Builtin.«int.__format__» ⟨[.int (n : Int) t, .str (Str.ofString "08b") u], []⟩) (.str (sOf (wrB n 8))) := by
  rw [eight h t u]
  intro prog w A R s hq
  refine wpAny_bind (wpAny_typeNameOf (T := "str") (typeIs_str _ _ _) (by decide) fun _ => wpAny_bind (typeCut fun _ => ?_))
  exact Gives.of_eq (t := retStr (sOf (wrB n 8))) rfl prog w A R s hq
def tF08 (te : TE) : TE := fun σ H Q => te σ H fun x H1 => ∃ n : Nat, x = .int (n : Int) ∧ n < 256 ∧ Q (.str (sOf (wrB n 8))) H1
theorem pe_f08 {X : Cx} {e : Expr} {te : TE} {j : Nat} {c0 p1 p2 pos : Pos} (he : PE X e te) : PE X (.JoinedStr [.FormattedValue e (-1) (some (.JoinedStr [.Constant (.str (Str.ofString "08b")) j c0] p1)) p2] pos) (tF08 te) := by
  refine pe_joined1 ⟨fun pins s σ H Q I q => wpAny_FormattedValue_spec (thn (he.run pins s σ H _ I q) fun v s1 z => ?_)⟩
  obtain ⟨x, H1, I1, r1, n, rfl, hn, q1⟩ := z
  obtain ⟨t, rfl⟩ := r1
  refine wpAny_JoinedStr_one (Calls.Constant_str ⟨_, _, rfl, ?_⟩)
  refine wpAny_formatField_spec (by decide +kernel) (fun s' => typeIs_int s' _ _) F.slot_int_format F.entry_int_format F.args_int_format_2 (fun u => gives_08b hn _ u) ?_ (by decide +kernel) (by rw [sOf_len, wrB_len]; exact sz (by decide))
  exact ⟨.str (sOf (wrB n 8)), H1, I1.tok _, ⟨_, rfl⟩, q1⟩
section
variable {X : Cx} {n : Nat} {a b : Expr} {ta tb : TE} {pos : Pos}
theorem ne_op {op : Operator} {r : R2} (ho : OpR X (binaryOp op) r) (h1 : NE n X a ta) (h2 : NE n X b tb) : NE n X (.BinOp a op b pos) (tOp r ta tb) := by
  refine ⟨fun {pins s σ H Q} k I q => wpAny_BinOp (tthn k (h1.go k I q) fun w s1 k1 z => ?_)⟩
  obtain ⟨x, H1, I1, r1, q1⟩ := z
  refine tthn k1 (h2.go k1 I1 q1) fun w2 s2 _ z2 => ?_
  obtain ⟨y, H2, I2, r2, q2⟩ := z2
  exact ho pins s2 σ H2 x y w w2 Q I2 r1 r2 q2
theorem nb_cut {st : Stmt} {sts : List Stmt} {t u : TS} (h1 : NS n X st t) (h2 : NB n X sts u) : NB n X (st :: sts) (Evl.tCut t u) := by
  refine ⟨fun {pins s σ H D} k I q => ?_⟩
  obtain ⟨M, q1, q2⟩ := q
  refine wpAny_execs_cons (tthn k (h1.go (D := { D with nx := M }) k I q1) fun f s1 k1 z => ?_)
  cases f with
  | next =>
    obtain ⟨σ1, H1, I1, m1⟩ := z
    exact h2.go k1 I1 (q2 σ1 H1 m1)
  | ret w => exact z
  | brk => exact z
  | cont => exact z
end
end FpT

set_option Elab.async false
set_option linter.all false
set_option maxRecDepth 100000
set_option maxHeartbeats 4000000
/-! Defs that raise and want tokens; try where the body wants tokens; a comprehension with a test within an except suite. -/
namespace FpT
open PySem PySem.Spec PyProof.Rows L2 Fp
section
variable {n : Nat} {X : Cx} {CX : CXT} {k : Nat} {f : Addr} {fd : FuncData} {ps : List Str} {sp : Sp} {E : L2.St → XK} {x : Str} {p pos : Pos} {e : Expr} {es : List Expr} {t : TA}
/-- f(..), a def that may raise -/
theorem ne_callS (F : FnN n X.prog X.w X.K X.mg X.base CX k f fd ps sp) (gd : X.A.guards = some []) (room : Room k X.A) (gl : Gl X x) (at_ : X.mg x = some (.ref f)) (kp : PySem.W.keepIn X.K (.ref f) = true) (bn : Binds X.K fd ps []) (ps_ : ∀ σ, PassesAt CX X σ (E σ))
    (ha : NA n X (e :: es) t) (nd : (x == ("__debug__" : Str)) = false := by decide) (ee : starEach (e :: es) X.env = (false, eval e X.env) :: starEach es X.env := by rfl) (pl : (backTo pos (starEach es X.env)).any (·.1) = false := by rfl) :
    NE n X (.Call (.Name x p) (e :: es) [] pos) (tCallS sp E t) := by
  refine ⟨fun {pins s σ H Q} hn I want => wpAny_Call_Name_kw (ld_glob I gl at_ ?_ nd)⟩
  refine PySem.W.callWith_K (h₀ := X.base) I.ok.mod.kin kp (tthn hn (ha.go hn I want) fun us s1 k1 z => ?_) ee pl
  obtain ⟨vs, H1, I1, r, q⟩ := z
  refine ⟨I1.kIn, ?_⟩
  have ln : us.length = ps.length := r.length.symm.trans (F.many _ _ _ _ q)
  have b := bn s1 us I1.kIn (by rw [List.append_nil]; exact ln)
  rw [List.append_nil] at b
  refine wpAny_call (codeAny_mono (F.goes X.A X.stack s1 H1 ⟨us, []⟩ us vs Q (E σ) k1 gd room I1.env0 b r q) fun res s' h => ?_)
  cases res with
  | error ex => exact ps_ σ pins H1 s1 ex s' I1 h
  | ok fl =>
    cases fl with
    | ret u => exact I1.after h
    | next => exact h.elim
    | brk => exact h.elim
    | cont => exact h.elim
end
section
variable {n : Nat} {P : Program} {w : World} {K : PySem.W.Frag} {mg : Str → Option Value} {base : Heap} {k : Nat} {f : Addr} {fd : FuncData} {ps : List Str} {sp : Sp}
theorem okNX {CX : CXT} {x qual : Str} {st : Stmt} {N : List Str} (F : Fun K x qual st f fd) (S : FnScope N ps (defScope st)) (many : ∀ vs H Q E, sp vs H Q E → vs.length = ps.length)
    (hb : ∀ (cdv : Value) (A : Around) (out : List Env) (s : Shared) (H : Hp) (vs : List V) (Q : VK) (E : XK), (A.deeper (envOfC qual (defScope st) s.heap.objs.size f cdv)).guards = some [] → Room k (A.deeper (envOfC qual (defScope st) s.heap.objs.size f cdv)) → sp vs H Q E →
      ∃ t, NB n (cxOf CX P w K mg base N qual (defScope st) f cdv A out s H E) (defBody st) t ∧ t { nx := fun _ H' => Q .non H', rt := Q } (start N vs) H) : FnN n P w K mg base CX (k + 1) f fd ps sp := by
  obtain ⟨oc, od, kV, doc, pm, an, cdv, ct, osl, rfl, at_, code⟩ := F.ex
  exact fnN_of at_ code S many fun A out s H vs Q E gd room want => hb cdv A out s H vs Q E gd room want
end
/-! ### try .. except X as e, the body wanting tokens -/
section
variable {n : Nat} {X : Cx} {x v : Str} {c : Value} {i : Nat} {bd su : List Stmt} {b0 : Stmt} {np pos pos' : Pos} {tb : WX → TS} {ts : Addr → Value → Option Addr → TS} {Wo : WX}
/-- what the handler finds: the error landed, its object neither a frame nor tracked -/
theorem landed_as {pins : List (Addr × Obj)} {D : Ends} {u : Value} {t : Shared} {xe : Value → Shared → Prop} (hs : X.stack = X.env :: X.outer) (hf : X.env.frame = some X.env.locals) (nd : X.N.Nodup) (hi : X.N[i]? = some v) (hv : X.env.kindOf v = some .local) (nm : Names X x c) (tk : L2N.Takes X Wo) (ok : X.Ok)
    (hsu : ∀ (a : Addr) (oe : Obj) (cls : Value) (d : Option Addr) (pn : List (Addr × Obj)), L2N.Zn cls d oe → (∃ vs, oe.data = .fields vs) → PSs (X.suite a ((a, oe) :: pn)) (b0 :: su) (ts a cls d)) (air : L2N.XE (X.tr (X.pn ++ pins) xe) (wAs X.K c i ts Wo D) u t) :
    wpAny (model X.prog X.w) X.A (noteFrame u X.env) (fun _ t1 => wpAny (model X.prog X.w) X.A (setFlight u none) (fun _ t2 => wpAny (model X.prog X.w) X.A (handleBy u X.env [.ExceptHandler (some (.Name x np)) (some v) (b0 :: su) pos']) (SP X pins D) X.xe t2) X.xe t1) X.xe t := by
  obtain ⟨a, B, t0, pins0, τ, G, cls, d, e, I0, ground, slots, sky, free, eos, bare, b, kind, yes, no⟩ := air
  subst e
  have I1 : Inv X pins τ G t0 := I0.ofTry ok
  have fr : X.A.frames = some (X.env :: X.outer) := ok.frames.trans (congrArg some hs)
  refine L2N.Sky.land L2N.Zn.steady fr hf (show Sky B (X.env :: X.outer) a (L2N.Zn cls d) X.env.locals t.heap from hs ▸ sky) fun g fly slots1 => ?_
  have I2 : Inv X pins τ G { t with heap := g } := I1.landed ground fly.1 (slots.trans slots1) eos bare
  obtain ⟨oe, vs, at_, zn, dat⟩ := fly.there
  have nofr : a ∉ frs (X.env :: X.outer) := fun hm => by
    obtain ⟨_, o1, at1, nf⟩ := (fly.2.2.1).mem hm
    cases at_.symm.trans at1
    exact nf _ dat
  have nL : a ≠ X.env.locals := fun z => nofr (List.mem_filterMap.mpr ⟨X.env, List.mem_cons_self, hf.trans (congrArg some z.symm)⟩)
  have nF : a ∉ X.fs := fun hm => (List.mem_filterMap.mp hm).elim fun en z => nofr (List.mem_filterMap.mpr ⟨en, List.mem_cons_of_mem _ z.1, z.2⟩)
  have S2 := I2.suite at_ dat free nL nF
  have look : PySem.W.Looks (model X.prog X.w) g (typeOf (.ref a)) cls := fun A' Q' E' s' keep q' => wpAny_typeOf_ref (keep _ _ at_) (zn.1.symm ▸ q')
  have isOne := PySem.W.exm_one (M := model X.prog X.w) I2.kIn look kind
  have named : ∀ {R F : Value → Shared → Prop}, R c { t with heap := g } → wpAny (model X.prog X.w) (X.A.mark (some (.ref a))) (eval (.Name x np) X.env) R F { t with heap := g } := fun {R F} r => by
    obtain ⟨g1, g2, m1 | ⟨m1, m2, m3⟩⟩ := nm
    · exact ld_glob (X := X.suite a ((a, oe) :: (X.pn ++ pins))) S2 g1 m1 r g2
    · exact ld_blt (X := X.suite a ((a, oe) :: (X.pn ++ pins))) S2 g1 m1 m2 r m3 g2
  refine wpAny_handleBy_cons (codeAny_handlers_test (named (isOne.here ?_))) (fun z => nomatch z)
  cases b with
  | false =>
    refine wpAny_handleBy_nil ?_
    obtain ⟨f1, f2, f3, ob, fs, T, oT, tf, h1, h2, h3, h4, h5⟩ := id fly
    have up : wpAny (model X.prog X.w) X.A (setFlight (.ref a) X.env.frame) (fun _ t3 => wpAny (model X.prog X.w) X.A (throw (.ref a) : Sem Flow) (SP X pins D) X.xe t3) X.xe { t with heap := g } := hf.symm ▸ HandSPX.setFlight_upZ fly fun g2 held slots2 =>
      wpAny_throw (tk _ _ ⟨a, B, t0, pins, τ, G, cls, d, rfl, I1, ground, (slots.trans slots1).trans slots2, .inr (.inr (hs.symm ▸ held)), free, eos, bare, no rfl⟩)
    unfold PySem.passOn
    refine wpAny_bind (wpAny_field h1 h3 h4 ?_)
    rw [if_neg (by simp : ¬ ((Value.ref T == Value.none) = true))]
    first
      | exact wpAny_bind up
      | exact wpAny_bind (wpAny_pure (wpAny_bind up))
  | true =>
    refine codeAny_handlers_suite_as (HandSPX.lands_againZ fly fun g2 fly2 slots2 => ?_)
    have I3 : Inv X pins τ G { t with heap := g2 } := I1.landed ground fly2.1 ((slots.trans slots1).trans slots2) eos bare
    obtain ⟨oe2, vs2, at2, zn2, dat2⟩ := fly2.there
    refine store_ok (X := X.suite a ((a, oe2) :: (X.pn ++ pins))) (v := .ref a) (I3.suite at2 dat2 free nL nF) nd hi (.inl hv) rfl (fun t3 S3 => ?_) (.inr hv)
    have after : ∀ {τ4 : L2.St} {G4 : Hp} {t4 : Shared} {R : Shared → Prop}, Inv (X.suite a ((a, oe2) :: (X.pn ++ pins))) [] τ4 G4 t4 → (∀ t5, Inv X pins (τ4.set i none) G4 t5 → R t5) → wpAny (model X.prog X.w) X.A (do bindName X.env v .none; unbindBehindTheSuite X.env v pos') (fun _ t5 => R t5) X.xe t4 :=
      fun S4 r => gone_ok (S4.unsuite ok) nd hi hv r
    refine wpAny_mono ((hsu a oe2 cls d (X.pn ++ pins) zn2 ⟨_, dat2⟩).run [] t3 _ G _ S3 (yes rfl a free)) (fun fl t4 z => ?_) fun _ _ z => z.elim
    cases fl with
    | ret w =>
      obtain ⟨y, τ4, G4, S4, ry, q⟩ := z
      exact after S4 fun t5 I5 => ⟨_, _, _, I5, ry, q⟩
    | next => exact z.elim fun τ4 z => z.elim fun G4 z => after z.1 fun t5 I5 => ⟨_, _, I5, z.2⟩
    | brk => exact z.elim fun τ4 z => z.elim fun G4 z => after z.1 fun t5 I5 => ⟨_, _, I5, z.2⟩
    | cont => exact z.elim fun τ4 z => z.elim fun G4 z => after z.1 fun t5 I5 => ⟨_, _, I5, z.2⟩
theorem ns_try_as (hs : X.stack = X.env :: X.outer) (hf : X.env.frame = some X.env.locals) (nd : X.N.Nodup) (hi : X.N[i]? = some v) (hv : X.env.kindOf v = some .local) (nm : Names X x c) (tk : L2N.Takes X Wo)
    (hb : ∀ (W : WX) (pn : List (Addr × Obj)) (xe : Value → Shared → Prop), L2N.Takes (X.tr pn xe) W → PassesOwn (model X.prog X.w) X.A X.env xe → NB n (X.tr pn xe) bd (tb W))
    (hsu : ∀ (a : Addr) (oe : Obj) (cls : Value) (d : Option Addr) (pn : List (Addr × Obj)), L2N.Zn cls d oe → (∃ vs, oe.data = .fields vs) → PSs (X.suite a ((a, oe) :: pn)) (b0 :: su) (ts a cls d)) :
    NS n X (.Try bd [.ExceptHandler (some (.Name x np)) (some v) (b0 :: su) pos'] [] [] pos) (fun D σ H => tb (wAs X.K c i ts Wo D) D σ H) := by
  refine ⟨fun {pins s σ H D} out I q => wpAny_Try_except ?_⟩
  have ok := I.ok
  have body := hb (wAs X.K c i ts Wo D) (X.pn ++ pins) _ (fun u t air => landed_as (np := np) (pos' := pos') (xe := _) hs hf nd hi hv nm tk ok hsu air) PassesOwn.looking
  refine wpAny_mono (body.go (pins := []) out (I.toTry _) q) (fun fl t z => ?_) fun _ _ z => z
  cases fl with
  | ret w =>
    obtain ⟨y, τ, G, J, ry, r⟩ := z
    exact ⟨y, τ, G, J.ofTry ok, ry, r⟩
  | next => exact z.elim fun τ z => z.elim fun G z => wpAny_execs_nil ⟨τ, G, z.1.ofTry ok, z.2⟩
  | brk => exact z.elim fun τ z => z.elim fun G z => ⟨τ, G, z.1.ofTry ok, z.2⟩
  | cont => exact z.elim fun τ z => z.elim fun G z => ⟨τ, G, z.1.ofTry ok, z.2⟩
end
/-! ### within an except suite -/
section
open L2H HotX
variable {X : Cx}
theorem pe_lcHotI {elt tg iter : Expr} {scope : Scope} {own : List (Str × Nat)} {pos : Pos} {wi : TI} {g : TG} {tt : TT} {te : TE} {ifs : List Expr} (hc : HotC X) (hN : X.N.Nodup) (hi : PIH X tg iter wi) (ok : BlkOk X.N X.env.scope scope own)
    (hg : ∀ (s : Shared) (H : Hp) (C : Addr) (cl : List (Str × Addr)) (fp : List Addr), PG (hotBlk X s H scope (compEnvC scope cl C X.env) fp) tg g)
    (ht : ∀ (s : Shared) (H : Hp) (C : Addr) (cl : List (Str × Addr)) (fp : List Addr), PTs (hotBlk X s H scope (compEnvC scope cl C X.env) fp) ifs tt)
    (he : ∀ (s : Shared) (H : Hp) (C : Addr) (cl : List (Str × Addr)) (fp : List Addr), PE (hotBlk X s H scope (compEnvC scope cl C X.env) fp) elt te) (hs : ∀ x, foldedSetIterable iter X.env x = pure x := by intro _; rfl) :
    PE X (.ListComp elt [⟨tg, iter, ifs, 0⟩] scope pos) (tLc wi g tt te (own.map (·.2))) := by
  refine ⟨fun pins s σ H Q I h => ?_⟩
  rw [eval_ListComp]
  have cf : ∀ y ∈ scope.names, y.2 = .free → ∃ c, X.env.cells.lookup y.1 = some c := fun y hy e => (ok.free y hy e).elim (fun k => I.ok.has _ (.inl k)) (fun k => I.ok.has _ (.inr k))
  refine wpAny_comprehension_free rfl hs (closure_ok cf) ok.kind (fun y hy e => by rw [ok.uniq y hy, e]) (thn (hi.run pins s σ H _ I h) fun xv s1 hx => thn hx fun itv s2 h2 => ?_)
  obtain ⟨it, fp, tn, J, H2, rfl, I2, T, st2, f2, q⟩ := h2
  refine wpAny_newObj_type (newEnv_comp ?_) (by show 0 ≤ sizeLine; decide)
  obtain ⟨D, hD⟩ : ∃ D, s2.heap.objs.size = D := ⟨_, rfl⟩
  obtain ⟨s3, e3⟩ : ∃ s3 : Shared, s3 = { s2 with heap := s2.heap.push { cls := .type "list", data := .seq ([] : List Value).toArray } } := ⟨_, rfl⟩
  obtain ⟨H3, eH⟩ : ∃ H3 : Hp, H3 = upd H2 D (.lst []) := ⟨_, rfl⟩
  obtain ⟨W, ⟨m0, w0⟩, turn⟩ := q D (I2.hok.fresh (Nat.le_of_eq hD))
  rw [← eH] at w0
  have k23 : ∀ b o, s2.heap.get? b = some o → s3.heap.get? b = some o := fun b o z => by
    rw [e3]
    exact Heap.get?_push_of_some _ z
  have z23 : s3.heap.objs.size = s2.heap.objs.size + 1 := by rw [e3]; exact Heap.size_push ..
  have I3 : Inv X pins σ H3 s3 := by
    rw [e3, eH]
    refine I2.laid (t' := s2.toks) (fun b o z => Heap.get?_push_of_some _ z) (Nat.le_of_eq hD) ⟨Nat.zero_le _, [], 0, .nil, ?_⟩
    rw [← hD]
    exact Heap.get?_push_size _ rfl
  have f3 : ∀ b ∈ fp, FpOk X pins H3 b ∧ b < s3.heap.objs.size := fun b hb => by
    obtain ⟨o, z, _⟩ := T.obj _ _ st2 b hb
    have lt := Heap.lt_size z
    refine ⟨⟨?_, (f2 b hb).2⟩, by rw [z23]; exact Nat.lt_succ_of_lt lt⟩
    rw [eH, upd_ne (by rw [← hD]; exact Nat.ne_of_lt lt)]
    exact (f2 b hb).1
  obtain ⟨ce, ece⟩ : ∃ ce : Env, ce = compEnvC scope (cellsFrom (s3.heap.objs.size + 1) scope.names (cloFrom X.env.cells scope.names [])) s3.heap.objs.size X.env := ⟨_, rfl⟩
  obtain ⟨s4, e4⟩ : ∃ s4 : Shared, s4 = { s3 with heap := pushCells (s3.heap.push { cls := .type "dict", data := .dict #[] }) scope.names } := ⟨_, rfl⟩
  have k34 : ∀ b o, s3.heap.get? b = some o → s4.heap.get? b = some o := fun b o z => by
    rw [e4]
    exact pushCells_keeps _ _ _ _ (Heap.get?_push_of_some _ z)
  have cL : ce.locals = s3.heap.objs.size := by rw [ece]; rfl
  have I4 : Inv (hotBlk X s3 H3 scope ce fp) [] (wipe σ (own.map (·.2))) H3 s4 := by
    refine hotBlk_inv I3 ?_ k34 (fun b z _ => z) (Nat.le_of_eq cL.symm)
    rw [ece, e4]
    exact block_start I3 ok hN f3
  have pg : PG (hotBlk X s3 H3 scope ce fp) tg g := by rw [ece]; exact hg _ _ _ _ _
  have pt : PTs (hotBlk X s3 H3 scope ce fp) ifs tt := by rw [ece]; exact ht _ _ _ _ _
  have pe : PE (hotBlk X s3 H3 scope ce fp) elt te := by rw [ece]; exact he _ _ _ _ _
  have st4 : tn 0 s4.heap := T.keep _ _ _ st2 fun b _ o z => k34 _ _ (k23 _ _ z)
  have fpb : ∀ {τ : L2.St} {H' : Hp} {s' : Shared}, Inv (hotBlk X s3 H3 scope ce fp) [] τ H' s' → (∀ b ∈ fp, H' b = none) → ∀ b ∈ fp, FpOk (hotBlk X s3 H3 scope ce fp) [] H' b := fun {τ H' s'} I' hn b hb =>
    ⟨hn b hb, (I'.ok.exf b hb).1, I'.ok.exfs b hb, .inl hb, fun x c z => (I'.ok.exf b hb).2 x c z, fun p hp => (f3 b hb).1.2.2.2.2.2 p (List.mem_append_left _ (by simpa using hp))⟩
  have hot4 : HotC (hotBlk X s3 H3 scope ce fp) := hc
  show codeAny _ _ (.compStart (.ListComp elt [⟨tg, iter, ifs, 0⟩] scope pos) 0 (.ref it) (.ref s2.heap.objs.size) _) _ _
  rw [← e3, ← e4, hD]
  show codeAny _ _ (.compStart _ 0 _ _ (compEnvC scope (cellsFrom (s3.heap.objs.size + 1) scope.names (cloFrom X.env.cells scope.names [])) s3.heap.objs.size X.env)) (compPost _ _ _ none _ _ s3.heap.objs.size) _
  rw [← ece, ← cL]
  have loop : codeAny (model X.prog X.w) X.A (.compLoop (.ListComp elt [⟨tg, iter, ifs, 0⟩] scope pos) 0 (.ref it) (.ref D) ce) (compPost (model X.prog X.w) X.A X.xe none (EP X pins σ Q) (.ref D) ce.locals) s4 := by
    refine compLoop_any (fun n s' => ∃ i H', Inv (hotBlk X s3 H3 scope ce fp) [] (wipe σ (own.map (·.2))) H' s' ∧ tn i s'.heap ∧ (∀ b ∈ fp, H' b = none) ∧ W i n H') ?_ m0 ⟨0, H3, I4, st4, fun b hb => (f3 b hb).1.1, w0⟩
    rintro n s5 ⟨i, H5, I5, st5, n5, w5⟩
    rcases turn i n H5 w5 with ⟨stop, qq⟩ | ⟨go, Nx, hNx, step⟩
    · refine thnF (T.done (hotBlk X s3 H3 scope ce fp) rfl rfl rfl hot4 i [] s5 _ H5 (fun _ _ => False) I5 (fpb I5 n5) st5 stop) fun r s6 ⟨hr, I6⟩ => ?_
      subst hr
      have I7 : Inv X pins σ H5 s6 := I3.call' (ch := fp) I6.os I6.base I6.hok I6.bare fun b hb => ⟨(f3 b hb).1.2.2.2.1, (f3 b hb).1.2.1, (f3 b hb).1.2.2.2.2.1, (f3 b hb).1.2.2.2.2.2⟩
      obtain ⟨m, hn, _⟩ := I6.loc
      have fr : FpOk X pins H5 ce.locals := I3.fpOk (Nat.le_of_eq cL.symm) I6.free
      refine ⟨m, hn, fun h'' sb => ?_⟩
      exact ⟨.ref D, H5, I7.turned (t' := s6.toks) (fun b o hb z => (sb.2 b hb).trans z) fr.1 fr.2.1 fr.2.2.2.1 fr.2.2.2.2.1 fr.2.2.2.2.2, rfl, qq⟩
    · refine thnF (T.item (hotBlk X s3 H3 scope ce fp) rfl rfl rfl hot4 i [] s5 _ H5 (fun _ _ => False) I5 (fpb I5 n5) st5 go) fun r s6 ⟨u, hr, h6⟩ => ?_
      subst hr
      refine thnF h6 fun _ s7 ⟨x, H7, I7, r7, y7, st7, n7⟩ => ?_
      refine thnF (pg.run _ s7 _ H7 x u _ (I7.pinned (fpb I7 n7) (T.obj _ _ st7)) r7 (step x H7 y7)) fun _ s8 ⟨σ8, H8, I8, hw8, q8⟩ => ?_
      refine thnF (pt.run _ s8 σ8 H8 _ I8 q8) fun b s9 ⟨H9, I9, q9⟩ => ?_
      have fin : ∀ {t : Shared} {G : Hp}, Inv (hotBlk X s3 H3 scope ce fp) ([] ++ pinsAt fp s7.heap) σ8 G t → Nx G → ∃ m, m < n ∧ ∃ i H', Inv (hotBlk X s3 H3 scope ce fp) [] (wipe σ (own.map (·.2))) H' t ∧ tn i t.heap ∧ (∀ b ∈ fp, H' b = none) ∧ W i m H' := fun {t G} J nx => by
        obtain ⟨m', lt, w'⟩ := hNx _ nx
        have back : ∀ b ∈ fp, ∀ o, s7.heap.get? b = some o → t.heap.get? b = some o ∧ G b = none := fun b hb o e =>
          let z := J.pin (b, o) (List.mem_append_right _ (List.mem_append_right _ (mem_pinsAt hb e)))
          ⟨z.1, z.2.1⟩
        refine ⟨m', lt, i + 1, _, (J.unpinned (pins := [])).weak (by rw [← hw8, wipe_length]) (fun j v e => ?_), T.keep _ _ _ st7 fun b hb o e => (back b hb o e).1, fun b hb => ?_, w'⟩
        · rw [← hw8] at e
          exact (wipe_some e).1
        · obtain ⟨o, e, _⟩ := T.obj _ _ st7 b hb
          exact (back b hb o e).2
      cases b with
      | false => exact fin I9 q9
      | true =>
        rw [if_pos rfl]
        refine thnF (pe.run _ s9 σ8 H9 _ I9 q9) fun z s10 ⟨yv, H10, I10, r10, acc, at10, few, nx⟩ => ?_
        exact app_ok (X := hotBlk X s3 H3 scope ce fp) I10 at10 few r10 fun s11 I11 => fin I11 nx
  exact codeAny_compStart_list loop (T.self X.A 0 _ _ _ st4 loop)
theorem call_isPinK {K : PySem.W.Frag} {p : Addr × Obj} {D : Addr} (hK : X.K = K) (C : ExcC K D) (hp : p ∈ X.pn) (hz : Zc (.ref D) none p.2) (hf : ∃ vs, p.2.data = .fields vs) : CallR X (.builtin "isinstance") (rIsE K D p.1) := by
  subst hK
  exact call_isPin C hp hz hf
end
end FpT
namespace Fp
open PySem
--PURE
/-! ### stuffing led back -/
/-- the bits whose stuffing stands here, k ones being ahead -/
def unst : Nat → List Nat → Option (List Nat)
  | _, [] => some []
  | k, c :: l => if c = 49 then (if k = 4 then (match l with | 48 :: r => (unst 0 r).map (49 :: ·) | _ => none) else (unst (k + 1) l).map (49 :: ·)) else (unst 0 l).map (c :: ·)
theorem unst_4 (l : List Nat) : unst 4 (49 :: l) = (match l with | 48 :: r => (unst 0 r).map (49 :: ·) | _ => none) := by
  rw [unst.eq_def]
  rfl
theorem unst_1 {k : Nat} (h : k ≠ 4) (l : List Nat) : unst k (49 :: l) = (unst (k + 1) l).map (49 :: ·) := by
  rw [unst.eq_def]
  show (if (49 : Nat) = 49 then _ else _) = _
  rw [if_pos rfl, if_neg h]
theorem unst_0 {k c : Nat} (h : c ≠ 49) (l : List Nat) : unst k (c :: l) = (unst 0 l).map (c :: ·) := by
  rw [unst.eq_def]
  show (if c = 49 then _ else _) = _
  rw [if_neg h]
theorem stf_4 (l : List Nat) : stf 4 (49 :: l) = 49 :: 48 :: stf 0 l := rfl
theorem stf_1 {k : Nat} (h : k ≠ 4) (l : List Nat) : stf k (49 :: l) = 49 :: stf (k + 1) l := by
  show (if (49 : Nat) = 49 then (if k = 4 then _ else _) else _) = _
  rw [if_pos rfl, if_neg h]
theorem stf_0 {k c : Nat} (h : c ≠ 49) (l : List Nat) : stf k (c :: l) = c :: stf 0 l := by
  show (if c = 49 then _ else _) = _
  rw [if_neg h]
theorem unst_stf : ∀ (m : List Nat) {k : Nat}, k ≤ 4 → unst k (stf k m) = some m
  | [], k, _ => by
    show unst k [] = _
    rw [unst.eq_def]
  | c :: m, k, h => by
    by_cases c1 : c = 49
    · subst c1
      by_cases k4 : k = 4
      · subst k4
        rw [stf_4, unst_4]
        show (unst 0 (stf 0 m)).map (49 :: ·) = _
        rw [unst_stf m (by omega)]
        rfl
      · rw [stf_1 k4, unst_1 k4, unst_stf m (by omega)]
        rfl
    · rw [stf_0 c1, unst_0 c1, unst_stf m (by omega)]
      rfl
theorem stf_unst : ∀ (N : Nat) (l : List Nat), l.length ≤ N → ∀ {k : Nat} {m : List Nat}, k ≤ 4 → unst k l = some m → stf k m = l
  | _, [], _, k, m, h, e => by
    rw [unst.eq_def] at e
    injection e with e
    rw [← e]
    rfl
  | 0, c :: l, hl, k, m, h, e => by
    rw [List.length_cons] at hl
    omega
  | N + 1, c :: l, hl, k, m, h, e => by
    have hN : l.length ≤ N := by
      rw [List.length_cons] at hl
      omega
    by_cases c1 : c = 49
    · subst c1
      by_cases k4 : k = 4
      · subst k4
        rw [unst_4] at e
        split at e
        · rename_i r
          obtain ⟨m', e1, e2⟩ := Option.map_eq_some_iff.mp e
          rw [← e2, stf_4, stf_unst N r (by rw [List.length_cons] at hN; omega) (by omega) e1]
        · cases e
      · rw [unst_1 k4] at e
        obtain ⟨m', e1, e2⟩ := Option.map_eq_some_iff.mp e
        rw [← e2, stf_1 k4, stf_unst N l hN (by omega) e1]
    · rw [unst_0 c1] at e
      obtain ⟨m', e1, e2⟩ := Option.map_eq_some_iff.mp e
      rw [← e2, stf_0 c1, stf_unst N l hN (by omega) e1]
theorem unst_iff {l m : List Nat} : unst 0 l = some m ↔ stf 0 m = l := ⟨stf_unst l.length l (Nat.le_refl _) (by omega), fun e => by rw [← e]; exact unst_stf m (by omega)⟩
theorem unst_none {l : List Nat} (h : unst 0 l = none) (m : List Nat) : stf 0 m ≠ l := fun e => by
  rw [unst_iff.mpr e] at h
  cases h
/-- the first five ones, and a 0 behind them -/
theorem unst_par : ∀ (l : List Nat) {k : Nat} {a b : List Nat}, k ≤ 4 → ons k ++ l = a ++ (ons 5 ++ b) → (∀ j, j < a.length → ¬ ons 5 <+: (ons k ++ l).drop j) →
    (unst k l).map (ons k ++ ·) = (match b with | 48 :: r => (unst 0 r).map (fun m => a ++ (ons 5 ++ m)) | _ => none)
  | [], k, a, b, h, e, _ => by
    have := congrArg List.length e
    simp [ons] at this
    omega
  | c :: l, k, a, b, h, e, no => by
    by_cases c1 : c = 49
    · subst c1
      by_cases k4 : k = 4
      · subst k4
        have ea : a = [] := by
          cases a with
          | nil => rfl
          | cons x a' => exact absurd ⟨l, rfl⟩ (no 0 (by simp))
        subst ea
        have eb : b = l := (List.append_cancel_left (show ons 5 ++ l = ons 5 ++ b from e)).symm
        subst eb
        rw [unst_4]
        split
        · rw [Option.map_map]
          rfl
        · rfl
      · rw [ons_succ] at e no
        have ih := unst_par l (k := k + 1) (by omega) e no
        rw [unst_1 k4, Option.map_map]
        rw [← ih]
        congr 1
        funext m
        show ons k ++ 49 :: m = _
        rw [ons_succ]
    · have hk : k < a.length := by
        rcases Nat.lt_or_ge k a.length with h' | h'
        · exact h'
        · exfalso
          have e1 := congrArg (fun x => x[k]?) e
          simp only [ons] at e1
          rw [List.getElem?_append_right (by rw [List.length_replicate]; exact Nat.le_refl _), List.getElem?_append_right h', List.getElem?_append_left (by rw [List.length_replicate]; omega)] at e1
          simp [List.length_replicate] at e1
          have e2 := List.mem_of_getElem? e1.symm
          simp at e2
          exact c1 e2
      have ea : a = ons k ++ c :: a.drop (k + 1) := by
        have e1 := congrArg (List.take (k + 1)) e
        rw [List.take_append_of_le_length (l₁ := a) (by omega)] at e1
        have e2 : (ons k ++ c :: l).take (k + 1) = ons k ++ [c] := by
          rw [List.take_append]
          simp [ons]
        rw [e2] at e1
        have e3 := (List.take_append_drop (k + 1) a).symm
        rw [← e1, List.append_assoc] at e3
        exact e3
      generalize a.drop (k + 1) = a' at ea
      subst ea
      have el : l = a' ++ (ons 5 ++ b) := by
        rw [List.append_assoc] at e
        have e := List.append_cancel_left e
        injection e
      have ih := unst_par l (k := 0) (by omega) el (fun j hj => by
        have z := no (k + 1 + j) (by simp [ons]; omega)
        have ed : (ons k ++ c :: l).drop (k + 1 + j) = l.drop j := by
          rw [show ons k ++ c :: l = (ons k ++ [c]) ++ l by simp, List.drop_append]
          simp [ons]
        rw [ed] at z
        exact z)
      rw [unst_0 c1, Option.map_map]
      have ih' : unst 0 l = _ := (Option.map_id' ▸ ih : _)
      rw [ih']
      split
      · rw [Option.map_map]
        congr 1
        funext m
        simp
      · rfl
theorem unst_plain : ∀ (l : List Nat) {k : Nat}, k ≤ 4 → (∀ j, ¬ ons 5 <+: (ons k ++ l).drop j) → unst k l = some l
  | [], k, _, _ => by rw [unst.eq_def]
  | c :: l, k, h, no => by
    by_cases c1 : c = 49
    · subst c1
      rw [ons_succ] at no
      by_cases k4 : k = 4
      · subst k4
        exact absurd ⟨l, rfl⟩ (no 0)
      · rw [unst_1 k4, unst_plain l (by omega) no]
        rfl
    · have ih := unst_plain l (k := 0) (by omega) fun j => by
        have z := no (k + 1 + j)
        have ed : (ons k ++ c :: l).drop (k + 1 + j) = l.drop j := by
          rw [show ons k ++ c :: l = (ons k ++ [c]) ++ l by simp, List.drop_append]
          simp [ons]
        rw [ed] at z
        exact z
      rw [unst_0 c1, ih]
      rfl
/-! ### what is left by taking out, shortening -/
theorem rplE_len {y z : List Nat} (h : z.length ≤ y.length) (n : y ≠ []) : ∀ (l : List Nat) (e : Nat), (rplE y z e l).length ≤ l.length - e
  | [], e => by
    rw [show rplE y z e [] = [] by cases e <;> rfl]
    exact Nat.zero_le _
  | c :: l, e + 1 => by
    have ih := rplE_len h n l e
    show (rplE y z e l).length ≤ (c :: l).length - (e + 1)
    rw [List.length_cons]
    omega
  | c :: l, 0 => by
    show (if y.isPrefixOf (c :: l) = true then z ++ rplE y z (y.length - 1) l else c :: rplE y z 0 l).length ≤ _
    have y0 : 0 < y.length := List.length_pos_iff.mpr n
    split
    · rename_i p
      have ih := rplE_len h n l (y.length - 1)
      have lp := (List.isPrefixOf_iff_prefix.mp p).length_le
      rw [List.length_append]
      rw [List.length_cons] at lp ⊢
      omega
    · have ih := rplE_len h n l 0
      rw [List.length_cons, List.length_cons]
      omega
theorem rpl_len {y z l : List Nat} (h : z.length ≤ y.length) (n : y ≠ []) : (rpl y z l).length ≤ l.length := rplE_len h n l 0
theorem rpl_out (c : Nat) : ∀ l : List Nat, rpl [c] [] l = l.filter (fun x => x ≠ c)
  | [] => rfl
  | d :: l => by
    by_cases e : d = c
    · subst e
      have := rpl_hit (y := [d]) (z := []) (l := l) (by simp)
      rw [show [d] ++ l = d :: l from rfl] at this
      rw [this, rpl_out d l]
      simp
    · rw [rpl_miss (fun p => by obtain ⟨t, ht⟩ := p; injection ht with h1 _; exact e h1.symm), rpl_out c l]
      simp [e]
--END
end Fp

set_option Elab.async false
set_option linter.all false
set_option maxRecDepth 100000
set_option maxHeartbeats 4000000
/-! text.partition of five ones, text.startswith, what replace by nothing leaves. -/
namespace Fp
open PySem PySem.Spec PyProof.Rows L2
theorem at_list {l y : List Nat} {i : Nat} : StrLaws.At (sOf l) (sOf y) (sOf l).length i ↔ i + y.length ≤ l.length ∧ y <+: l.drop i := by
  unfold StrLaws.At
  rw [StrLaws.subAt_eq, sOf_list, sOf_list, sOf_len, sOf_len, beq_iff_eq, take_pref]
theorem at_any {l y : List Nat} (n : y ≠ []) {i : Nat} (h : y <+: l.drop i) : StrLaws.At (sOf l) (sOf y) (sOf l).length i := by
  refine at_list.mpr ⟨?_, h⟩
  have := h.length_le
  rw [List.length_drop] at this
  have := List.length_pos_iff.mpr n
  omega
theorem in_iff {l y : List Nat} (n : y ≠ []) : (!(Builtin.Str.occurrences (sOf l) (sOf y) 0 (sOf l).length 1).isEmpty) = true ↔ ∃ i, y <+: l.drop i := by
  rw [StrLaws.found_iff]
  constructor
  · rintro ⟨i, h1, h2⟩
    exact ⟨i, (at_list.mp ⟨h1, h2⟩).2⟩
  · rintro ⟨i, h⟩
    exact ⟨i, at_any n h⟩
open PySem.Builtin.Str StrLaws in
theorem sub_list (l : List Nat) (i j : Nat) : strSub (sOf l) i j = sOf ((l.drop i).take (j - i)) := by
  refine of_list ?_
  rw [strSub_toList, sOf_list]
theorem part_list (l : List Nat) {y : List Nat} (n : y ≠ []) : (Txt.partition (sOf l) (sOf y) = (sOf l, sOf [], sOf []) ∧ ∀ j, ¬ y <+: l.drop j) ∨ ∃ a b, l = a ++ (y ++ b) ∧ Txt.partition (sOf l) (sOf y) = (sOf a, sOf y, sOf b) ∧ ∀ j, j < a.length → ¬ y <+: l.drop j := by
  rcases partition_whole (sOf l) (sOf y) with ⟨e, no⟩ | ⟨i, e, at_, no⟩
  · exact .inl ⟨e, fun j h => no j (at_any n h)⟩
  · obtain ⟨h1, t, h2⟩ := at_list.mp at_
    have hl : (l.take i).length = i := by
      rw [List.length_take]
      omega
    refine .inr ⟨l.take i, t, ?_, ?_, fun j hj h => no j (by omega) (at_any n h)⟩
    · rw [h2, List.take_append_drop]
    · rw [e, sub_list, sub_list, sOf_len, sOf_len, List.drop_zero, Nat.sub_zero]
      have e2 : (l.drop (i + y.length)).take (l.length - (i + y.length)) = t := by
        rw [List.take_of_length_le (by rw [List.length_drop]; exact Nat.le_refl _), ← List.drop_drop, ← h2, List.drop_left]
      rw [e2]
theorem ons5_ne : ons 5 ≠ [] := by decide
/-- five ones: none, or the first ones and what stands behind -/
theorem five_cases (l : List Nat) : ((!(Builtin.Str.occurrences (sOf l) (sOf (ons 5)) 0 (sOf l).length 1).isEmpty) = false ∧ unst 0 l = some l) ∨
    ∃ a b, l = a ++ (ons 5 ++ b) ∧ (!(Builtin.Str.occurrences (sOf l) (sOf (ons 5)) 0 (sOf l).length 1).isEmpty) = true ∧ Txt.partition (sOf l) (sOf (ons 5)) = (sOf a, sOf (ons 5), sOf b) ∧
      unst 0 l = (match b with | 48 :: r => (unst 0 r).map (fun m => a ++ (ons 5 ++ m)) | _ => none) := by
  rcases part_list l ons5_ne with ⟨_, no⟩ | ⟨a, b, e, p, no⟩
  · refine .inl ⟨?_, unst_plain l (k := 0) (by omega) no⟩
    cases z : (!(Builtin.Str.occurrences (sOf l) (sOf (ons 5)) 0 (sOf l).length 1).isEmpty) with
    | false => rfl
    | true =>
      obtain ⟨i, h⟩ := (in_iff ons5_ne).mp z
      exact absurd h (no i)
  · refine .inr ⟨a, b, e, (in_iff ons5_ne).mpr ⟨a.length, b, ?_⟩, p, ?_⟩
    · rw [e, List.drop_left]
    · have u := unst_par l (k := 0) (by omega) e no
      have em : (unst 0 l).map (ons 0 ++ ·) = unst 0 l := Option.map_id'
      rw [em] at u
      exact u
theorem starts_with (b y : List Nat) : Txt.startswith (sOf b) (sOf y) = decide (y <+: b) := by
  unfold Txt.startswith
  rw [StrLaws.subAt_eq, sOf_list, sOf_list, sOf_len, sOf_len, List.drop_zero]
  rw [Bool.eq_iff_iff, Bool.and_eq_true, decide_eq_true_eq, decide_eq_true_eq, beq_iff_eq, take_pref]
  constructor
  · exact fun x => x.2
  · intro x
    have := x.length_le
    exact ⟨by omega, x⟩
theorem ends_with (b y : List Nat) : Txt.endswith (sOf b) (sOf y) = decide (y <:+ b) := by
  unfold Txt.endswith
  rw [StrLaws.subAt_eq, sOf_list, sOf_list, sOf_len, sOf_len]
  rw [Bool.eq_iff_iff, Bool.and_eq_true, decide_eq_true_eq, decide_eq_true_eq, beq_iff_eq]
  constructor
  · rintro ⟨h1, h2⟩
    rw [List.take_of_length_le (by rw [List.length_drop]; omega)] at h2
    rw [← h2]
    exact List.drop_suffix _ _
  · intro x
    have := x.length_le
    refine ⟨by omega, ?_⟩
    rw [List.take_of_length_le (by rw [List.length_drop]; omega)]
    obtain ⟨t, rfl⟩ := x
    rw [List.length_append, Nat.add_sub_cancel, List.drop_left]
/-- text.replace('0', '').replace('1', '') is empty just where the text is bits -/
theorem outs_is (l : List Nat) : Txt.replace (Txt.replace (sOf l) (Str.ofString "0") (Str.ofString "")) (Str.ofString "1") (Str.ofString "") = sOf ((l.filter (fun x => x ≠ 48)).filter (fun x => x ≠ 49)) := by
  rw [show Str.ofString "0" = sOf [48] by decide +kernel, show Str.ofString "1" = sOf [49] by decide +kernel, show Str.ofString "" = sOf [] by decide +kernel]
  rw [replace_is (by decide), rpl_out, replace_is (by decide), rpl_out]
theorem outs_bits (l : List Nat) : (l.filter (fun x => x ≠ 48)).filter (fun x => x ≠ 49) = [] ↔ isB l = true := by
  rw [isB_iff]
  unfold Bts
  rw [List.filter_filter, List.filter_eq_nil_iff]
  constructor
  · intro h x hx
    have := h x hx
    simp only [Bool.and_eq_true, decide_eq_true_eq, not_and, ne_eq, Decidable.not_not] at this
    by_cases z : x = 48
    · exact .inl z
    · refine .inr ?_
      by_cases z1 : x = 49
      · exact z1
      · exact absurd (this z1) z
  · intro h x hx
    rcases h x hx with rfl | rfl <;> simp
theorem outs_len (l : List Nat) : (Txt.replace (sOf l) (Str.ofString "0") (Str.ofString "")).length ≤ l.length := by
  rw [show Str.ofString "0" = sOf [48] by decide +kernel, show Str.ofString "" = sOf [] by decide +kernel, replace_is (by decide), sOf_len]
  exact rpl_len (by decide) (by decide)
end Fp

set_option Elab.async false
set_option linter.all false
set_option maxRecDepth 100000
set_option maxHeartbeats 4000000
/-! A method that may raise (k36 and on). -/
namespace Fp
open PySem PySem.Spec PyProof.Rows L2
def tMethE (C : Addr) (m : Str) (sp : Sp) (E : L2.St → XK) (ta : TE) (t : TA) : TE := fun σ H Q => ta σ H fun x H1 => ∃ a dx fs, x = .ref a ∧ H1 a = some (.ins C dx fs) ∧ fs.lookup m = none ∧ t σ H1 fun vs H2 => sp (x :: vs) H2 Q (E σ)
section
variable {X : Cx} {CX : CXT} {k : Nat} {f C : Addr} {fd : FuncData} {ps : List Str} {sp : Sp} {E : L2.St → XK} {m : Str} {pos apos : Pos} {e o : Expr} {es : List Expr} {ta : TE} {t : TA}
/-- o.m(e, ..), m may raise -/
theorem pe_methE {pl : Sem Bool} (he : PE X o ta) (c : Cls X.K C) (hm : Meth X.K C m f) (F : FnOk X.prog X.w X.K X.mg X.base CX k f fd ps sp) (hr : Room k X.A) (hb : Binds X.K fd ps []) (hx : ∀ σ, PassesAt CX X σ (E σ)) (ha : PA X (e :: es) t)
    (hst : starEach (e :: es) X.env = (false, eval e X.env) :: starEach es X.env := by rfl) (hpl : (backTo pos (starEach es X.env)).any (·.1) = false := by rfl)
    (ht : eval (.Call (.Attribute o m apos) (e :: es) [] pos) X.env = (do
      let ov ← eval o X.env
      standAt apos.atName
      let (f, first) ← holding [ov] (getMethod ov m pl)
      callWith pos f first (backTo pos (starEach (e :: es) X.env)) (backToKw pos (keywordEach [] X.env))) := by rfl) :
    PE X (.Call (.Attribute o m apos) (e :: es) [] pos) (tMethE C m sp E ta t) := by
  refine ⟨fun pins s σ H Q I h => ?_⟩
  refine PySem.W.methodCall_KW (pl := pl) (thn (he.run pins s σ H _ I h) fun u s1 ⟨x, H1, I1, rx, a, dx, fs, ex, ea, l, q⟩ => ?_) ht
  subst ex
  obtain rfl : u = Value.ref a := rx
  refine getmeth_ok I1 ea c hm l ?_
  refine PySem.W.callWith_K (first := [.ref a]) (h₀ := X.base) I.ok.mod.kin hm.kp (thn (ha.run pos pins s1 σ H1 _ I1 q) fun us s2 ⟨vs, H2, I2, r, q2⟩ => ⟨I2.kIn, ?_⟩) hst hpl
  exact run_fnS (us := .ref a :: us) (vs := .ref a :: vs) F hr hb (hx σ) I2 (.cons rfl r) q2
end
end Fp

set_option Elab.async false
set_option linter.all false
set_option maxRecDepth 100000
set_option maxHeartbeats 4000000
set_option pp.maxSteps 3000
namespace K36
open PySem PySem.Spec PyProof.Rows L2 Fp L2H
def topS (i : Nat) : Stmt := PySem.Challenge.pw_farpage_k36_gathering_refused.main.body.getD i (.Pass ⟨0, 0, 0, 0⟩)
abbrev s_is_whole : Stmt := topS 1
abbrev N_is_whole : List Str := ["thing"]
abbrev P_is_whole : List Str := ["thing"]
theorem sc_is_whole : FnScope N_is_whole P_is_whole (defScope s_is_whole) := ⟨rfl, rfl, rfl, by decide +kernel, rfl, by decide +kernel, by decide +kernel⟩
abbrev s_is_bits : Stmt := topS 2
abbrev N_is_bits : List Str := ["thing"]
abbrev P_is_bits : List Str := ["thing"]
theorem sc_is_bits : FnScope N_is_bits P_is_bits (defScope s_is_bits) := ⟨rfl, rfl, rfl, by decide +kernel, rfl, by decide +kernel, by decide +kernel⟩
abbrev s_Gathering___init__ : Stmt := inClass (topS 15) 0
abbrev N_Gathering___init__ : List Str := ["self", "many"]
abbrev P_Gathering___init__ : List Str := ["self", "many"]
theorem sc_Gathering___init__ : FnScope N_Gathering___init__ P_Gathering___init__ (defScope s_Gathering___init__) := ⟨rfl, rfl, rfl, by decide +kernel, rfl, by decide +kernel, by decide +kernel⟩
abbrev s_Gathering_take : Stmt := inClass (topS 15) 1
abbrev N_Gathering_take : List Str := ["self", "number", "bits"]
abbrev P_Gathering_take : List Str := ["self", "number", "bits"]
theorem sc_Gathering_take : FnScope N_Gathering_take P_Gathering_take (defScope s_Gathering_take) := ⟨rfl, rfl, rfl, by decide +kernel, rfl, by decide +kernel, by decide +kernel⟩
abbrev s_Gathering_lacking : Stmt := inClass (topS 15) 2
abbrev N_Gathering_lacking : List Str := ["self", "number"]
abbrev P_Gathering_lacking : List Str := ["self"]
theorem sc_Gathering_lacking : FnScope N_Gathering_lacking P_Gathering_lacking (defScope s_Gathering_lacking) := ⟨rfl, rfl, rfl, by decide +kernel, rfl, by decide +kernel, by decide +kernel⟩
abbrev s_Gathering_joined : Stmt := inClass (topS 15) 3
abbrev N_Gathering_joined : List Str := ["self", "number"]
abbrev P_Gathering_joined : List Str := ["self"]
theorem sc_Gathering_joined : FnScope N_Gathering_joined P_Gathering_joined (defScope s_Gathering_joined) := ⟨rfl, rfl, rfl, by decide +kernel, rfl, by decide +kernel, by decide +kernel⟩
abbrev s_bag : Stmt := topS 17
abbrev N_bag : List Str := ["_law_script", "_law_at", "_law_cell", "_law_prime"]
abbrev P_bag : List Str := ["_law_script", "_law_at"]
theorem sc_bag : FnScope N_bag P_bag (defScope s_bag) := ⟨rfl, rfl, rfl, by decide +kernel, rfl, by decide +kernel, by decide +kernel⟩
abbrev s_take : Stmt := topS 18
abbrev N_take : List Str := ["_law_bag_here", "_law_many", "_law_digit"]
abbrev P_take : List Str := ["_law_bag_here", "_law_many"]
theorem sc_take : FnScope N_take P_take (defScope s_take) := ⟨rfl, rfl, rfl, by decide +kernel, rfl, by decide +kernel, by decide +kernel⟩
abbrev s_written : Stmt := topS 19
abbrev N_written : List Str := ["_law_number", "_law_many", "_law_place"]
abbrev P_written : List Str := ["_law_number", "_law_many"]
theorem sc_written : FnScope N_written P_written (defScope s_written) := ⟨rfl, rfl, rfl, by decide +kernel, rfl, by decide +kernel, by decide +kernel⟩
abbrev s_any_bits : Stmt := topS 20
abbrev N_any_bits : List Str := ["_law_bag_here", "_law_many", "_law_way", "_law_found", "_law_k", "_law_at"]
abbrev P_any_bits : List Str := ["_law_bag_here", "_law_many"]
theorem sc_any_bits : FnScope N_any_bits P_any_bits (defScope s_any_bits) := ⟨rfl, rfl, rfl, by decide +kernel, rfl, by decide +kernel, by decide +kernel⟩
abbrev s_classes : Stmt := topS 21
abbrev N_classes : List Str := ["_law_e", "_law_some", "_law_k"]
abbrev P_classes : List Str := ["_law_e"]
theorem sc_classes : FnScope N_classes P_classes (defScope s_classes) := ⟨rfl, rfl, rfl, by decide +kernel, rfl, by decide +kernel, by decide +kernel⟩
abbrev s_like : Stmt := topS 22
abbrev N_like : List Str := ["_law_found", "_law_due"]
abbrev P_like : List Str := ["_law_found", "_law_due"]
theorem sc_like : FnScope N_like P_like (defScope s_like) := ⟨rfl, rfl, rfl, by decide +kernel, rfl, by decide +kernel, by decide +kernel⟩
abbrev s_told : Stmt := topS 23
abbrev N_told : List Str := ["_law_gathering", "_law_number", "_law_bits", "_law_found", "_law_e"]
abbrev P_told : List Str := ["_law_gathering", "_law_number", "_law_bits"]
theorem sc_told : FnScope N_told P_told (defScope s_told) := ⟨rfl, rfl, rfl, by decide +kernel, rfl, by decide +kernel, by decide +kernel⟩
abbrev s_any_number : Stmt := topS 24
abbrev N_any_number : List Str := ["_law_bag_here", "_law_many", "_law_way"]
abbrev P_any_number : List Str := ["_law_bag_here", "_law_many"]
theorem sc_any_number : FnScope N_any_number P_any_number (defScope s_any_number) := ⟨rfl, rfl, rfl, by decide +kernel, rfl, by decide +kernel, by decide +kernel⟩
abbrev s_piece_bits : Stmt := topS 25
abbrev N_piece_bits : List Str := ["_law_bag_here", "_law_way"]
abbrev P_piece_bits : List Str := ["_law_bag_here"]
theorem sc_piece_bits : FnScope N_piece_bits P_piece_bits (defScope s_piece_bits) := ⟨rfl, rfl, rfl, by decide +kernel, rfl, by decide +kernel, by decide +kernel⟩
abbrev s_is_piece : Stmt := topS 26
abbrev N_is_piece : List Str := ["_law_number", "_law_bits", "_law_many"]
abbrev P_is_piece : List Str := ["_law_number", "_law_bits", "_law_many"]
theorem sc_is_piece : FnScope N_is_piece P_is_piece (defScope s_is_piece) := ⟨rfl, rfl, rfl, by decide +kernel, rfl, by decide +kernel, by decide +kernel⟩
abbrev s_law : Stmt := topS 27
abbrev N_law : List Str := ["_law_script", "_law_k", "_law_bag_here", "_law_many", "_law_gathering", "_law_there", "_law_step", "_law_number", "_law_bits", "_law_due", "_law_lacking", "_law_joined", "_law_one"]
abbrev P_law : List Str := ["_law_script"]
theorem sc_law : FnScope N_law P_law (defScope s_law) := ⟨rfl, rfl, rfl, by decide +kernel, rfl, by decide +kernel, by decide +kernel⟩
structure Ad where
  a_is_whole : Addr
  d_is_whole : FuncData
  a_is_bits : Addr
  d_is_bits : FuncData
  a_Gathering___init__ : Addr
  d_Gathering___init__ : FuncData
  a_Gathering_take : Addr
  d_Gathering_take : FuncData
  a_Gathering_lacking : Addr
  d_Gathering_lacking : FuncData
  a_Gathering_joined : Addr
  d_Gathering_joined : FuncData
  a_bag : Addr
  d_bag : FuncData
  a_take : Addr
  d_take : FuncData
  a_written : Addr
  d_written : FuncData
  a_any_bits : Addr
  d_any_bits : FuncData
  a_classes : Addr
  d_classes : FuncData
  a_like : Addr
  d_like : FuncData
  a_told : Addr
  d_told : FuncData
  a_any_number : Addr
  d_any_number : FuncData
  a_piece_bits : Addr
  d_piece_bits : FuncData
  a_is_piece : Addr
  d_is_piece : FuncData
  a_law : Addr
  d_law : FuncData
  C_Gathering : Addr
  x_FarError : Addr
  x_NoPage : Addr
  x_NoWords : Addr
  x_NoTelling : Addr
  x_NoFrame : Addr
  x_NoPiece : Addr
  x_NoName : Addr
  x_NoEnds : Addr
  x_NoCall : Addr
  x_NoSaying : Addr
structure Txt (w : World) (K : PySem.W.Frag) (mg : Str → Option Value) (base : Heap) (A : Ad) : Prop where
  F_is_whole : Fun K "is_whole" "is_whole" s_is_whole A.a_is_whole A.d_is_whole
  b_is_whole : Binds K A.d_is_whole P_is_whole []
  g_is_whole : mg "is_whole" = some (.ref A.a_is_whole)
  F_is_bits : Fun K "is_bits" "is_bits" s_is_bits A.a_is_bits A.d_is_bits
  b_is_bits : Binds K A.d_is_bits P_is_bits []
  g_is_bits : mg "is_bits" = some (.ref A.a_is_bits)
  F_Gathering___init__ : Fun K "__init__" "Gathering.__init__" s_Gathering___init__ A.a_Gathering___init__ A.d_Gathering___init__
  b_Gathering___init__ : Binds K A.d_Gathering___init__ P_Gathering___init__ []
  M_Gathering : Mk K A.C_Gathering A.a_Gathering___init__
  F_Gathering_take : Fun K "take" "Gathering.take" s_Gathering_take A.a_Gathering_take A.d_Gathering_take
  b_Gathering_take : Binds K A.d_Gathering_take P_Gathering_take []
  m_Gathering_take : Meth K A.C_Gathering "take" A.a_Gathering_take
  F_Gathering_lacking : Fun K "lacking" "Gathering.lacking" s_Gathering_lacking A.a_Gathering_lacking A.d_Gathering_lacking
  b_Gathering_lacking : Binds K A.d_Gathering_lacking P_Gathering_lacking []
  m_Gathering_lacking : Meth K A.C_Gathering "lacking" A.a_Gathering_lacking
  F_Gathering_joined : Fun K "joined" "Gathering.joined" s_Gathering_joined A.a_Gathering_joined A.d_Gathering_joined
  b_Gathering_joined : Binds K A.d_Gathering_joined P_Gathering_joined []
  m_Gathering_joined : Meth K A.C_Gathering "joined" A.a_Gathering_joined
  F_bag : Fun K "_law_bag" "_law_bag" s_bag A.a_bag A.d_bag
  b_bag : Binds K A.d_bag P_bag []
  g_bag : mg "_law_bag" = some (.ref A.a_bag)
  F_take : Fun K "_law_take" "_law_take" s_take A.a_take A.d_take
  b_take : Binds K A.d_take P_take []
  g_take : mg "_law_take" = some (.ref A.a_take)
  F_written : Fun K "_law_written" "_law_written" s_written A.a_written A.d_written
  b_written : Binds K A.d_written P_written []
  g_written : mg "_law_written" = some (.ref A.a_written)
  F_any_bits : Fun K "_law_any_bits" "_law_any_bits" s_any_bits A.a_any_bits A.d_any_bits
  b_any_bits : Binds K A.d_any_bits P_any_bits []
  g_any_bits : mg "_law_any_bits" = some (.ref A.a_any_bits)
  F_classes : Fun K "_law_classes" "_law_classes" s_classes A.a_classes A.d_classes
  b_classes : Binds K A.d_classes P_classes []
  g_classes : mg "_law_classes" = some (.ref A.a_classes)
  F_like : Fun K "_law_like" "_law_like" s_like A.a_like A.d_like
  b_like : Binds K A.d_like P_like []
  g_like : mg "_law_like" = some (.ref A.a_like)
  F_told : Fun K "_law_told" "_law_told" s_told A.a_told A.d_told
  b_told : Binds K A.d_told P_told []
  g_told : mg "_law_told" = some (.ref A.a_told)
  F_any_number : Fun K "_law_any_number" "_law_any_number" s_any_number A.a_any_number A.d_any_number
  b_any_number : Binds K A.d_any_number P_any_number []
  g_any_number : mg "_law_any_number" = some (.ref A.a_any_number)
  F_piece_bits : Fun K "_law_piece_bits" "_law_piece_bits" s_piece_bits A.a_piece_bits A.d_piece_bits
  b_piece_bits : Binds K A.d_piece_bits P_piece_bits []
  g_piece_bits : mg "_law_piece_bits" = some (.ref A.a_piece_bits)
  F_is_piece : Fun K "_law_is_piece" "_law_is_piece" s_is_piece A.a_is_piece A.d_is_piece
  b_is_piece : Binds K A.d_is_piece P_is_piece []
  g_is_piece : mg "_law_is_piece" = some (.ref A.a_is_piece)
  F_law : Fun K "law" "law" s_law A.a_law A.d_law
  g_law : mg "law" = some (.ref A.a_law)
  cl_Gathering : Cls K A.C_Gathering
  gC_Gathering : mg "Gathering" = some (.ref A.C_Gathering)
  n_Gathering_many : NoAttr K A.C_Gathering "many"
  n_Gathering_pieces : NoAttr K A.C_Gathering "pieces"
  xg_FarError : mg "FarError" = some (.ref A.x_FarError)
  ki_FarError : PySem.W.kitOne K (.ref A.x_NoPiece) (.ref A.x_FarError) = some true
  xg_NoPage : mg "NoPage" = some (.ref A.x_NoPage)
  ki_NoPage : PySem.W.kitOne K (.ref A.x_NoPiece) (.ref A.x_NoPage) = some false
  xg_NoWords : mg "NoWords" = some (.ref A.x_NoWords)
  ki_NoWords : PySem.W.kitOne K (.ref A.x_NoPiece) (.ref A.x_NoWords) = some false
  xg_NoTelling : mg "NoTelling" = some (.ref A.x_NoTelling)
  ki_NoTelling : PySem.W.kitOne K (.ref A.x_NoPiece) (.ref A.x_NoTelling) = some false
  xg_NoFrame : mg "NoFrame" = some (.ref A.x_NoFrame)
  ki_NoFrame : PySem.W.kitOne K (.ref A.x_NoPiece) (.ref A.x_NoFrame) = some false
  xg_NoPiece : mg "NoPiece" = some (.ref A.x_NoPiece)
  ki_NoPiece : PySem.W.kitOne K (.ref A.x_NoPiece) (.ref A.x_NoPiece) = some true
  xg_NoName : mg "NoName" = some (.ref A.x_NoName)
  ki_NoName : PySem.W.kitOne K (.ref A.x_NoPiece) (.ref A.x_NoName) = some false
  xg_NoEnds : mg "NoEnds" = some (.ref A.x_NoEnds)
  ki_NoEnds : PySem.W.kitOne K (.ref A.x_NoPiece) (.ref A.x_NoEnds) = some false
  xg_NoCall : mg "NoCall" = some (.ref A.x_NoCall)
  ki_NoCall : PySem.W.kitOne K (.ref A.x_NoPiece) (.ref A.x_NoCall) = some false
  xg_NoSaying : mg "NoSaying" = some (.ref A.x_NoSaying)
  ki_NoSaying : PySem.W.kitOne K (.ref A.x_NoPiece) (.ref A.x_NoSaying) = some false
  xq_NoPiece : PySem.W.excIn K A.x_NoPiece veB "ValueError.__new__" = true
  xk_NoPiece : PySem.W.keepIn K (.ref A.x_NoPiece) = true
  xs_NoPiece : PySem.W.subIn K (.ref A.x_NoPiece) (.type "BaseException") = some true
  xt_NoPiece : PySem.W.typeIn K (.ref A.x_NoPiece) = some (.type "type")
  xe : ExcC K A.x_NoPiece
  kv : PySem.W.kitOne K (.ref A.x_NoPiece) (.type "ValueError") = some true
  xm_FarError : PySem.W.exmOne K (.ref A.x_NoPiece) (.ref A.x_FarError) = some true
  z_ValueError : mg "ValueError" = none
  z_abs : mg "abs" = none
  z_bool : mg "bool" = none
  z_int : mg "int" = none
  z_isinstance : mg "isinstance" = none
  z_len : mg "len" = none
  z_max : mg "max" = none
  z_min : mg "min" = none
  z_range : mg "range" = none
  z_repr : mg "repr" = none
  z_str : mg "str" = none
section
variable {P : Program} {w : World} {K : PySem.W.Frag} {mg : Str → Option Value} {base : Heap}
def spBag (K : PySem.W.Frag) : Sp := fun vs H Q _ => ∃ (a : Addr) (ns : List Int) (k : Int), vs = [.ref a, .int k] ∧ SqL K H a (ns.map V.int) ∧ 0 ≤ k ∧ k ≤ 1000 ∧
  ∀ p H', H p = none → Same H H' → Bag4 H' p → Q (.ref p) H'
def primes : List V := [.int 2147483629, .int 2147483587, .int 2147483579, .int 2147483563, .int 2147483549, .int 2147483543, .int 2147483497, .int 2147483489]
theorem prime_at {j : Int} (h0 : 0 ≤ j) (h1 : j < 8) : ∃ p : Int, atI primes j = some (.int p) ∧ 0 < p ∧ p < 2147483648 := by
  obtain ⟨k, rfl⟩ := Int.eq_ofNat_of_zero_le h0
  have hk : k < 8 := by omega
  have main : ∀ k : Nat, k < 8 → ∃ p : Int, primes[k]? = some (.int p) ∧ 0 < p ∧ p < 2147483648 := by
    intro k hk
    rcases k with _ | _ | _ | _ | _ | _ | _ | _ | k
    · exact ⟨_, rfl, by decide, by decide⟩
    · exact ⟨_, rfl, by decide, by decide⟩
    · exact ⟨_, rfl, by decide, by decide⟩
    · exact ⟨_, rfl, by decide, by decide⟩
    · exact ⟨_, rfl, by decide, by decide⟩
    · exact ⟨_, rfl, by decide, by decide⟩
    · exact ⟨_, rfl, by decide, by decide⟩
    · exact ⟨_, rfl, by decide, by decide⟩
    · omega
  obtain ⟨p, e, h2⟩ := main k hk
  exact ⟨p, atI_nat e, h2⟩
theorem ok_bag {A : Ad} (T : Txt w K mg base A) : FnOk P w K mg base CX0 1 A.a_bag A.d_bag P_bag (spBag K) := by
  refine T.F_bag.ok sc_bag (fun vs H Q E h => ?_) (fun cdv Ar outer s H vs Q E hr h => ?_)
  · obtain ⟨a, ns, k, rfl, _⟩ := h
    rfl
  · obtain ⟨a, ns, k, rfl, hS, k0, k1, q⟩ := h
    refine ⟨_, (pss_cons (ps_set (i := 2) sc_bag.nd rfl (Or.inl rfl) pe_int)
      (Evl.pss_cut (ps_if (pt_cmpR op_lt (pv 1) (pe_callB (r := fun xs H Q => ∃ p ys, xs = [.ref p] ∧ (SqL K H p ys ∨ SqT K H p ys) ∧ Q (.int ys.length) H) call_len_seq (by rfl) T.z_len PySem.boot_len (pa_cons (pv 0) pa_nil)) (nomark _))
      (pss_one (ps_set (i := 2) sc_bag.nd rfl (Or.inl rfl) (pe_callB call_abs (by rfl) T.z_abs (by decide +kernel) (pa_cons (pe_ix (r := rIxL K) ix_list (pv 0) (pv 1) (fun _ _ => rfl)) pa_nil)))) pss_nil)
      (pss_cons (ps_set (i := 3) sc_bag.nd rfl (Or.inl rfl) (pe_ix (r := rIxL K) ix_list (pe_lst (pa_cons pe_int (pa_cons pe_int (pa_cons pe_int (pa_cons pe_int (pa_cons pe_int (pa_cons pe_int (pa_cons pe_int (pa_cons pe_int pa_nil))))))))) (pe_op op_mod (pv 1) pe_int) (fun _ _ => rfl)))
      (pss_one (ps_ret (pe_lst (pa_cons (pe_op op_mul (pv 2) (pe_callTy call_int1 (by rfl) T.z_int (by decide +kernel) (pa_cons (pe_cmpR op_ge (pv 2) (pe_op op_pow pe_int pe_int) (nomark _)) pa_nil))) (pa_cons (pe_op op_mod (pe_op op_pow (pe_op op_add (pe_op op_add (pe_op op_mod (pv 2) pe_int) (pe_op op_mul pe_int (pv 1))) pe_int) pe_int) (pv 3)) (pa_cons (pv 3) (pa_cons pe_int pa_nil)))))))))), ?_⟩
    refine ⟨fun σ H' => ∃ c : Int, σ = [some (.ref a), some (.int k), some (.int c), none] ∧ 0 ≤ c ∧ H' = H, ?_, ?_⟩
    · refine ⟨_, rfl, _, rfl, _, _, rfl, .inl hS, _, _, rfl, rfl, _, rfl, ite2 (fun e => ?_) (fun e => ?_)⟩
      · have lt : k < ((ns.map V.int).length : Int) := of_decide_eq_true e
        obtain ⟨j, rfl⟩ := Int.eq_ofNat_of_zero_le k0
        have hj : j < ns.length := by
          rw [List.length_map] at lt
          omega
        have g : (ns.map V.int)[j]? = some (.int ns[j]) := by
          rw [List.getElem?_map, List.getElem?_eq_getElem hj]
          rfl
        refine ⟨_, rfl, _, rfl, _, _, _, _, rfl, rfl, hS, atI_nat g, _, rfl, ?_⟩
        exact ⟨_, rfl, by split <;> omega, rfl⟩
      · exact ⟨0, rfl, Int.le_refl _, rfl⟩
    · rintro σ H1 ⟨c, rfl, c0, rfl⟩
      refine ⟨(by show 8 ≤ sizeLine; decide), fun p hp => ⟨_, rfl, _, _, rfl, rfl, (by show (0 : Int) < 8; decide), ?_⟩⟩
      have m0 := Int.emod_nonneg k (show (8 : Int) ≠ 0 by decide)
      have m1 := Int.emod_lt_of_pos k (show (0 : Int) < 8 by decide)
      obtain ⟨pr, hpr, p0, p1⟩ := prime_at m0 m1
      refine ⟨_, _, _, _, rfl, rfl, SqL.of (upd_same (o := .lst primes)), hpr, ?_⟩
      have n0 := Int.emod_nonneg c (show (2147483647 : Int) ≠ 0 by decide)
      have n1 := Int.emod_lt_of_pos c (show (0 : Int) < 2147483647 by decide)
      refine ⟨_, rfl, _, rfl, _, _, rfl, rfl, ⟨by decide, by decide, by decide⟩, _, _, rfl, rfl, .inr ⟨_, rfl, _, _, rfl, rfl, .inr ?_, _, rfl, _, _, rfl, rfl, (by show (0 : Int) < 2147483647; decide), _, rfl, _, _, rfl, rfl, .inl ⟨by decide, by decide⟩, _, _, rfl, rfl, _, _, rfl, rfl, _, _, rfl, rfl, ⟨by decide, by decide, ?_⟩, _, rfl, _, _, rfl, rfl, p0, _, rfl, (by show 4 ≤ sizeLine; decide), fun z hz => ?_⟩⟩
      · split <;> constructor <;> decide
      · omega
      · refine q z _ (by
          cases e : H1 z with
          | none => rfl
          | some o =>
            rw [same_new hp _ _ e] at hz
            cases hz) ((same_new hp).trans (same_new hz)) ⟨_, _, pr, 0, upd_same, ?_, Int.emod_nonneg _ (by omega), ?_, p0, p1⟩
        · split <;> omega
        · have := Int.emod_lt_of_pos ((c % 2147483647 + 104729 * k + 7) ^ (5 : Int).toNat) p0
          exact Int.lt_trans this p1
def spTake : Sp := fun vs H Q _ => ∃ (b : Addr) (m : Int), vs = [.ref b, .int m] ∧ Bag4 H b ∧ 0 < m ∧ m < 1000000 ∧
  ∀ (d : Int) (H' : Hp), 0 ≤ d → d < m → Bx4 b H H' → Q (.int d) H'
theorem ok_take {A : Ad} (T : Txt w K mg base A) : FnOk P w K mg base CX0 1 A.a_take A.d_take P_take spTake := by
  refine T.F_take.ok sc_take (fun vs H Q E h => ?_) (fun cdv Ar outer s H vs Q E hr h => ?_)
  · obtain ⟨b, m, rfl, _⟩ := h
    rfl
  · obtain ⟨b, m, rfl, ⟨g, s, pr, kk, hb, g0, s0, s1, p0, p1⟩, m0, m1, q⟩ := h
    refine ⟨_, (pss_cons (ps_if (pt_cmpR op_gt (pe_ix (r := rIxL K) ix_list (pv 0) pe_int (fun _ _ => rfl)) pe_int (nomark _))
      (pss_cons (ps_set (i := 2) sc_take.nd rfl (Or.inl rfl) (pe_op op_mod (pe_ix (r := rIxL K) ix_list (pv 0) pe_int (fun _ _ => rfl)) (pv 1)))
      (pss_cons (ps_asg (pe_op op_fdiv (pe_ix (r := rIxL K) ix_list (pv 0) pe_int (fun _ _ => rfl)) (pv 1)) (pg_sub (pv 0) pe_int set_list))
      (pss_one (ps_ret (pv 2))))) pss_nil)
      (pss_cons (ps_asg (pe_op op_add (pe_ix (r := rIxL K) ix_list (pv 0) pe_int (fun _ _ => rfl)) pe_int) (pg_sub (pv 0) pe_int set_list))
      (pss_cons (ps_asg (pe_op op_mod (pe_op op_add (pe_op op_add (pe_op op_mul (pe_ix (r := rIxL K) ix_list (pv 0) pe_int (fun _ _ => rfl)) pe_int) (pe_op op_mul pe_int (pe_ix (r := rIxL K) ix_list (pv 0) pe_int (fun _ _ => rfl)))) pe_int) (pe_ix (r := rIxL K) ix_list (pv 0) pe_int (fun _ _ => rfl))) (pg_sub (pv 0) pe_int set_list))
      (pss_one (ps_ret (pe_op op_mod (pe_op op_mod (pe_op op_pow (pe_op op_fdiv (pe_ix (r := rIxL K) ix_list (pv 0) pe_int (fun _ _ => rfl)) pe_int) pe_int) pe_int) (pv 1))))))), ?_⟩
    refine ⟨_, rfl, _, _, _, _, rfl, rfl, SqL.of hb, atI_nat (j := 0) rfl, _, _, rfl, rfl, _, rfl, ite2 (fun e => ?_) (fun e => ?_)⟩
    · refine ⟨_, rfl, _, _, _, _, rfl, rfl, SqL.of hb, atI_nat (j := 0) rfl, _, rfl, _, _, rfl, rfl, m0, ?_⟩
      refine ⟨_, rfl, _, _, _, _, rfl, rfl, SqL.of hb, atI_nat (j := 0) rfl, _, rfl, _, _, rfl, rfl, ⟨m0, by omega⟩, _, rfl, _, _, _, _, rfl, rfl, hb, Evl.ixN_nat (j := 0) (by show 0 < 4; decide), ?_⟩
      refine ⟨_, rfl, ?_⟩
      exact q _ _ (Int.emod_nonneg _ (by omega)) (Int.emod_lt_of_pos _ m0) (Bx4.drawn (Int.ediv_nonneg g0 (by omega)) s0 s1 p0 p1)
    · have t0 := Int.emod_nonneg (s * 48271 + 7919 * (kk + 1) + 11) (show pr ≠ 0 by omega)
      have t1 := Int.emod_lt_of_pos (s * 48271 + 7919 * (kk + 1) + 11) p0
      refine ⟨_, rfl, _, _, _, _, rfl, rfl, SqL.of hb, atI_nat (j := 3) rfl, _, _, rfl, rfl, _, rfl, _, _, _, _, rfl, rfl, hb, Evl.ixN_nat (j := 3) (by show 3 < 4; decide), ?_⟩
      refine ⟨_, rfl, _, _, _, _, rfl, rfl, SqL.of upd_same, atI_nat (j := 1) rfl, _, _, rfl, rfl, .inr ⟨by decide, by decide⟩, _, rfl, _, _, _, _, rfl, rfl, SqL.of upd_same, atI_nat (j := 3) rfl, _, _, rfl, rfl, .inl ⟨by decide, by decide⟩, _, _, rfl, rfl, _, _, rfl, rfl, _, rfl, _, _, _, _, rfl, rfl, SqL.of upd_same, atI_nat (j := 2) rfl, _, _, rfl, rfl, p0, _, rfl, _, _, _, _, rfl, rfl, upd_same, Evl.ixN_nat (j := 1) (by show 1 < 4; decide), ?_⟩
      refine ⟨_, rfl, _, _, _, _, rfl, rfl, SqL.of upd_same, atI_nat (j := 1) rfl, _, _, rfl, rfl, ⟨by decide, by decide⟩, _, _, rfl, rfl, ⟨by decide, by decide, ?_⟩, _, _, rfl, rfl, (by show (0 : Int) < 2147483629; decide), _, rfl, _, _, rfl, rfl, m0, ?_⟩
      · omega
      · refine q _ _ (Int.emod_nonneg _ (by omega)) (Int.emod_lt_of_pos _ m0) ?_
        have b1 : Bx4 b H (upd H b (.lst [.int g, .int s, .int pr, .int (kk + 1)])) := Bx4.drawn g0 s0 s1 p0 p1
        exact b1.trans (Bx4.drawn (k := kk + 1) g0 t0 (by omega) p0 p1)
def spWritten : Sp := fun vs H Q _ => ∃ (n m : Nat) (x y : Int), vs = [.int x, .int y] ∧ x = n ∧ y = m ∧ m ≤ 1000 ∧ ∀ H', Same H H' → Q (.str (sOf (wrB n m))) H'
theorem log2_bit (k : Nat) (h : k < 2) : ((k : Nat) : Int).natAbs.log2 < 1920 := by
  have : k = 0 ∨ k = 1 := by omega
  rcases this with rfl | rfl <;> decide
theorem ok_written {A : Ad} (T : Txt w K mg base A) : FnOk P w K mg base CX0 1 A.a_written A.d_written P_written spWritten := by
  refine T.F_written.ok sc_written (fun vs H Q E h => ?_) (fun cdv Ar outer s H vs Q E hr h => ?_)
  · obtain ⟨n, m, x, y, rfl, _⟩ := h
    rfl
  · obtain ⟨n, m, _, _, rfl, rfl, rfl, m1, q⟩ := h
    refine ⟨_, (pss_one (ps_ret (pe_join pe_str (pe_lc (own := [("_law_place", 2)]) (g := gName 2) (tt := tYes) (by rfl) sc_written.nd (pi_range3 (by rfl) T.z_range (pa_cons (pe_op op_sub (pv 1) pe_int) (pa_cons (pe_un un_neg pe_int) (pa_cons (pe_un un_neg pe_int) pa_nil)))) (blkOk_by (own := [("_law_place", 2)]) (N := N_written) (sc := defScope s_written) (by decide +kernel)) (fun _ _ _ _ _ => pg_name (i := 2) sc_written.nd rfl (Or.inl rfl)) (fun _ _ _ _ _ => pts_nil) (fun s5 H5 C5 cl5 fp5 => (pe_callTy call_str_int (by rfl) T.z_str (by decide +kernel) (pa_cons (pe_op op_odd (pe_op op_shr (pv 0) (pv 2)) pe_int) pa_nil))))))), ?_⟩
    refine ⟨⟨_, rfl⟩, _, rfl, _, _, rfl, rfl, _, rfl, _, rfl, _, _, _, _, rfl, RgC.neg (by omega) (by omega) (by decide) (by decide), fun D hD => ?_⟩
    rw [show ((m : Int) - 1 - (-1)).toNat = m by omega]
    refine lc_it walk_rangeC (fun i H' => Same H H' ∧ H' D = some (.lst (cells ((List.range i).map fun j => 48 + n / 2 ^ (m - 1 - j) % 2)))) ⟨same_new hD, upd_same⟩ (fun _ _ _ _ => trivial) ?_ ?_
    · rintro i x H1 H2 hi ⟨sm, hD1⟩ ⟨rfl, rfl⟩
      have ep : ((m : Int) - 1 + (i : Int) * (-1)) = ((m - 1 - i : Nat) : Int) := by omega
      have e2 : (n : Int) / 2 ^ ((m : Int) - 1 + (i : Int) * (-1)).toNat = ((n / 2 ^ (m - 1 - i) : Nat) : Int) := by
        rw [ep, Int.toNat_natCast]
        push_cast
        rfl
      refine ⟨rfl, _, rfl, _, rfl, _, _, rfl, rfl, by omega, n / 2 ^ (m - 1 - i), congrArg V.int e2, rfl, _, rfl, log2_bit _ (by omega), _, hD1, ?_, Same.mut sm hD, ?_⟩
      · rw [cells_len, List.length_map, List.length_range]
        exact szl (by omega)
      · rw [upd_same, range_more, ← cells_app, str_bit _ (by omega)]
    · rintro H1 ⟨sm, hD1⟩
      refine ⟨_, _, (wrB n m).map fun c => sOf [c], rfl, rfl, .inl (SqL.of (by rw [← cells_strs]; exact hD1)), join_size (by rw [wrB_len]; omega), ?_⟩
      rw [join_cells]
      exact q H1 sm
def spAny : Sp := fun vs H Q _ => ∃ (b : Addr) (m : Nat) (x : Int), vs = [.ref b, .int x] ∧ x = m ∧ Bag4 H b ∧ m ≤ 50000 ∧ ∀ l H', l.length = m → Bts l → Bx4 b H H' → Q (.str (sOf l)) H'
theorem put_at {l : List Nat} {j c : Nat} (hj : j < l.length) : l.take j ++ [c] ++ l.drop (j + 1) = l.set j c := by
  rw [List.set_eq_take_append_cons_drop, if_pos hj, List.append_assoc]
  rfl
theorem ok_any_bits {A : Ad} (T : Txt w K mg base A) : FnOk P w K mg base CX0 2 A.a_any_bits A.d_any_bits P_any_bits spAny := by
  have G_take := ok_take (P := P) (w := w) (base := base) T
  have G_written := ok_written (P := P) (w := w) (base := base) T
  refine T.F_any_bits.ok sc_any_bits (fun vs H Q E h => ?_) (fun cdv Ar outer s H vs Q E hr h => ?_)
  · obtain ⟨b, m, x, rfl, _⟩ := h
    rfl
  · obtain ⟨b, m, _, rfl, rfl, hb, m1, q⟩ := h
    refine ⟨_, (pss_cons (ps_set (i := 2) sc_any_bits.nd rfl (Or.inl rfl) (pe_call G_take (hr.mono (by decide)) (by rfl) T.g_take T.F_take.kp T.b_take .nil pass0 (pa_cons (pv 0) (pa_cons pe_int pa_nil))))
      (pss_cons (ps_if (pt_cmpR op_lt (pv 2) pe_int (nomark _))
      (pss_one (ps_ret (pe_slice sl_str (pe_join pe_str (pe_lc (own := [("_law_k", 4)]) (g := gName 4) (tt := tYes) (by rfl) sc_any_bits.nd (pi_range1 (by rfl) T.z_range (pa_cons (pe_op op_add (pe_op op_fdiv (pv 1) pe_int) pe_int) pa_nil)) (blkOk_by (own := [("_law_k", 4)]) (N := N_any_bits) (sc := defScope s_any_bits) (by decide +kernel)) (fun _ _ _ _ _ => pg_name (i := 4) sc_any_bits.nd rfl (Or.inl rfl)) (fun _ _ _ _ _ => pts_nil) (fun s5 H5 C5 cl5 fp5 => (pe_call G_written (hr.mono (by decide)) (by rfl) T.g_written T.F_written.kp T.b_written .nil pass0 (pa_cons (pe_call G_take (hr.mono (by decide)) (by rfl) T.g_take T.F_take.kp T.b_take .nil pass0 (pa_cons (pv 0) (pa_cons pe_int pa_nil))) (pa_cons pe_int pa_nil)))))) po_none (po_some (pv 1))))) pss_nil)
      (pss_cons (ps_if (pt_cmpR op_eq (pv 2) pe_int (nomark _))
      (pss_one (ps_ret (pe_slice sl_str (pe_op op_mulT (pe_call G_written (hr.mono (by decide)) (by rfl) T.g_written T.F_written.kp T.b_written .nil pass0 (pa_cons (pe_call G_take (hr.mono (by decide)) (by rfl) T.g_take T.F_take.kp T.b_take .nil pass0 (pa_cons (pv 0) (pa_cons pe_int pa_nil))) (pa_cons pe_int pa_nil))) (pe_op op_add (pe_op op_fdiv (pv 1) pe_int) pe_int)) po_none (po_some (pv 1))))) pss_nil)
      (pss_cons (ps_set (i := 3) sc_any_bits.nd rfl (Or.inl rfl) (pe_op op_mul_str (pe_ix ix_str pe_str (pe_op op_sub (pv 2) pe_int) (fun _ _ => rfl)) (pv 1)))
      (pss_cons (ps_for PassesOwn.never rfl (pi_range1 (by rfl) T.z_range (pa_cons (pe_op op_mul (pe_call G_take (hr.mono (by decide)) (by rfl) T.g_take T.F_take.kp T.b_take .nil pass0 (pa_cons (pv 0) (pa_cons pe_int pa_nil))) (pe_callTy call_int1 (by rfl) T.z_int (by decide +kernel) (pa_cons (pe_cmpR op_gt (pv 1) pe_int (nomark _)) pa_nil))) pa_nil)) (pg_name (i := 4) sc_any_bits.nd rfl (Or.inl rfl))
      (pss_cons (ps_set (i := 5) sc_any_bits.nd rfl (Or.inl rfl) (pe_call G_take (hr.mono (by decide)) (by rfl) T.g_take T.F_take.kp T.b_take .nil pass0 (pa_cons (pv 0) (pa_cons (pv 1) pa_nil))))
      (pss_one (ps_set (i := 3) sc_any_bits.nd rfl (Or.inl rfl) (pe_op op_add_str (pe_op op_add_str (pe_slice sl_str (pv 3) po_none (po_some (pv 5))) (pe_ix ix_str pe_str (pe_op op_sub (pv 2) pe_int) (fun _ _ => rfl))) (pe_slice sl_str (pv 3) (po_some (pe_op op_add (pv 5) pe_int)) po_none))))))
      (pss_one (ps_ret (pv 3)))))))), ?_⟩
    refine ⟨_, rfl, b, 6, rfl, hb, by decide, by decide, fun way H1 w0 w1 bx1 => ?_⟩
    refine ⟨_, rfl, _, _, rfl, rfl, _, rfl, ite2 (fun e => ?_) (fun e => ?_)⟩
    · refine ⟨⟨_, rfl⟩, _, rfl, _, _, rfl, rfl, ⟨by decide, by decide⟩, _, _, rfl, rfl, _, rfl, by omega, by omega, fun D hD => ?_⟩
      rw [show ((m : Int) / 16 + 1).toNat = m / 16 + 1 by omega]
      have nD : D ≠ b := bx1.1.ne hD
      have fD : H D = none := bx1.free hD
      refine lc_range (lo := 0) (n := m / 16 + 1) (fun i H' => ∃ ls : List (List Nat), H' D = some (.lst (ls.map sV)) ∧ ls.length = i ∧ ls.flatten.length = 16 * i ∧ Bts ls.flatten ∧ Bx4 b H H') ⟨[], upd_same, rfl, rfl, Bts.nil, bx1.same (same_new hD)⟩ ?_ ?_
      · rintro i H2 hi ⟨ls, hD2, l1, l2, bl, bx2⟩
        refine ⟨rfl, _, rfl, b, 65536, rfl, bx2.1, by decide, by decide, fun d H3 d0 d1 bx3 => ?_⟩
        obtain ⟨d, rfl⟩ := Int.eq_ofNat_of_zero_le d0
        refine ⟨d, 16, _, _, rfl, rfl, rfl, by decide, fun H4 s4 => ?_⟩
        refine ⟨_, s4 _ _ (bx3.2 _ _ nD hD2), ?_, ls ++ [wrB d 16], ?_, ?_, ?_, ?_, ((bx2.trans bx3).same s4).mut fD nD⟩
        · rw [List.length_map]
          exact szl (by omega)
        · rw [upd_same, List.map_append]
          rfl
        · rw [List.length_append, l1]
          rfl
        · rw [flatten_snoc, List.length_append, l2, wrB_len]
          omega
        · rw [flatten_snoc]
          exact bl.app (wrB_bts d 16)
      · rintro H2 ⟨ls, hD2, l1, l2, bl, bx2⟩
        have lz : ls.flatten.length ≤ 100000 := by omega
        refine ⟨_, _, ls.map sOf, rfl, rfl, .inl (SqL.of (by rw [← sV_strs]; exact hD2)), join_flat_size lz, ?_⟩
        rw [join_flat]
        refine ⟨_, rfl, _, rfl, _, rfl, (by rw [sOf_len]; exact sz lz), ?_⟩
        rw [cutS_upto]
        exact q _ H2 (by rw [List.length_take]; omega) (bl.take m) bx2
    · refine ⟨_, rfl, rfl, _, rfl, ite2 (fun e3 => ?_) (fun e3 => ?_)⟩
      · refine ⟨_, rfl, b, 256, rfl, bx1.1, by decide, by decide, fun d H3 d0 d1 bx3 => ?_⟩
        obtain ⟨d, rfl⟩ := Int.eq_ofNat_of_zero_le d0
        refine ⟨d, 8, _, _, rfl, rfl, rfl, by decide, fun H4 s4 => ?_⟩
        refine ⟨_, rfl, _, _, rfl, rfl, ⟨by decide, by decide⟩, _, _, rfl, rfl, wrB d 8, _, rfl, rfl, ⟨by omega, by omega, by rw [wrB_len]; decide⟩, ?_⟩
        have ln : (List.replicate ((m : Int) / 8 + 1).toNat (wrB d 8)).flatten.length = ((m : Int) / 8 + 1).toNat * 8 := by rw [flat_len, wrB_len]
        refine ⟨_, rfl, _, rfl, _, rfl, (by rw [sOf_len, ln]; exact sz (by omega)), ?_⟩
        rw [cutS_upto]
        exact q _ H4 (by rw [List.length_take, ln]; omega) ((flat_bts (wrB_bts d 8) _).take m) ((bx1.trans bx3).same s4)
      · have w4 : 4 ≤ way := by
          have h1 : ¬ way < 3 := fun z => e (decide_eq_true z)
          have h2 : ¬ way = 3 := fun z => e3 (decide_eq_true (by rw [z]))
          omega
        have c10 : ∃ c, atI (Str.ofString "10").cps.toList (way - 4) = some c ∧ (c = 48 ∨ c = 49) := by
          have : way = 4 ∨ way = 5 := by omega
          rcases this with rfl | rfl
          · exact ⟨49, rfl, .inr rfl⟩
          · exact ⟨48, rfl, .inl rfl⟩
        obtain ⟨c, hc, bc⟩ := c10
        have c01 := bit_at (i := way - 4) (by omega) (by omega)
        refine ⟨_, rfl, _, _, rfl, rfl, _, _, _, rfl, rfl, (by decide), hc, _, rfl, c, _, rfl, rfl, ⟨by omega, by omega⟩, ?_⟩
        refine ⟨_, rfl, b, 4, rfl, bx1.1, by decide, by decide, fun t H2 t0 t1 bx2 => ?_⟩
        refine ⟨_, rfl, _, _, rfl, rfl, .inr ⟨_, rfl, ?_⟩⟩
        have hk : ∃ k : Nat, t * (if decide ((0 : Int) < (m : Int)) = true then (1 : Int) else 0) = (k : Int) ∧ k ≤ 3 ∧ (0 < k → 0 < m) := by
          obtain ⟨t, rfl⟩ := Int.eq_ofNat_of_zero_le t0
          by_cases z : 0 < m
          · rw [if_pos (decide_eq_true (by omega))]
            exact ⟨t, by omega, by omega, fun _ => z⟩
          · rw [if_neg (fun y => z (by have := of_decide_eq_true y; omega))]
            exact ⟨0, by omega, by omega, fun y => absurd y (by omega)⟩
        obtain ⟨k, ek, k3, km⟩ := hk
        refine ⟨_, _, rfl, rfl, .inr (by split <;> constructor <;> decide), _, rfl, ?_⟩
        rw [ek]
        refine ⟨by omega, by omega, for_range (lo := 0) (n := k) (fun i σ H' => ∃ (l : List Nat) (y4 y5 : Option V), σ = [some (.ref b), some (.int (m : Int)), some (.int way), some (.str (sOf l)), y4, y5] ∧ l.length = m ∧ Bts l ∧ Bx4 b H H') ⟨List.replicate m c, _, _, rfl, List.length_replicate, Bts.rep bc, bx1.trans bx2⟩ ?_ ?_⟩
        · rintro i σ H3 hi ⟨l, y4, y5, rfl, ll, bl, bx3⟩
          have m0 := km (by omega)
          refine ⟨_, rfl, _, rfl, b, _, rfl, bx3.1, by omega, by omega, fun at_ H4 a0 a1 bx4 => ?_⟩
          obtain ⟨j, rfl⟩ := Int.eq_ofNat_of_zero_le a0
          have hl : (sOf l).length ≤ sizeLine := by
            rw [sOf_len]
            exact sz (by omega)
          refine ⟨_, rfl, _, rfl, _, rfl, _, rfl, hl, _, rfl, _, _, rfl, rfl, _, _, _, rfl, rfl, two_len', c01, _, _, rfl, rfl, ?_, _, rfl, _, rfl, _, _, rfl, rfl, _, rfl, _, rfl, hl, _, _, rfl, rfl, ?_, ?_⟩
          · rw [cutS_upto, sOf_len, List.length_take]
            exact sz (by show min j l.length + 1 ≤ _; omega)
          · rw [cutS_upto, show ((j : Int) + 1) = ((j + 1 : Nat) : Int) from rfl, cutS_from, show (⟨#[bitN (way - 4)]⟩ : Str) = sOf [bitN (way - 4)] from rfl, sOf_app, sOf_len, sOf_len, List.length_append, List.length_take, List.length_drop]
            exact sz (by show min j l.length + 1 + _ ≤ _; omega)
          · rw [cutS_upto, show ((j : Int) + 1) = ((j + 1 : Nat) : Int) from rfl, cutS_from, show (⟨#[bitN (way - 4)]⟩ : Str) = sOf [bitN (way - 4)] from rfl, sOf_app, sOf_app, put_at (by omega)]
            refine ⟨_, _, _, rfl, by rw [List.length_set]; exact ll, fun x hx => ?_, bx3.trans bx4⟩
            rcases List.mem_or_eq_of_mem_set hx with h | h
            · exact bl x h
            · rw [h]
              exact bitN_bit _
        · rintro σ H3 ⟨l, y4, y5, rfl, ll, bl, bx3⟩
          exact ⟨_, rfl, q l H3 ll bl bx3⟩

--SPLIT
/-! ### bits told of things -/
def NoTxt (K : PySem.W.Frag) (H : Hp) (v : V) : Prop := ∃ t, TyOf K H v (.type t) ∧ t ∈ ["NoneType", "bool", "int", "list", "tuple"]
theorem isS_no {t : String} (h : t ∈ ["NoneType", "bool", "int", "list", "tuple"]) : PySem.W.kitOne K (.type t) (.type "str") = some false := by
  have : ∀ t ∈ ["NoneType", "bool", "int", "list", "tuple"], kitB t "str" = some false := by decide +kernel
  exact kit_ty (this t h)
theorem isS_yes : PySem.W.kitOne K (.type "str") (.type "str") = some true := kit_ty (by decide +kernel)
def spIsBits (K : PySem.W.Frag) : Sp := fun vs H Q _ => ∃ v : V, vs = [v] ∧ ((NoTxt K H v ∧ Q (.bl false) H) ∨ ∃ l : List Nat, v = .str (sOf l) ∧ l.length ≤ 99000 ∧ Q (.bl (isB l)) H)
theorem ok_is_bits {A : Ad} (T : Txt w K mg base A) : FnOk P w K mg base CX0 1 A.a_is_bits A.d_is_bits P_is_bits (spIsBits K) := by
  refine T.F_is_bits.ok sc_is_bits (fun vs H Q E h => ?_) (fun cdv Ar outer s H vs Q E hr h => ?_)
  · obtain ⟨v, rfl, _⟩ := h
    rfl
  · obtain ⟨v, rfl, h⟩ := h
    refine ⟨_, (pss_cons (ps_if (pt_not (pt_val (pe_callB (r := rIsi K) call_isi (by rfl) T.z_isinstance (by decide +kernel) (pa_cons (pv 0) (pa_cons (pe_bltn (v := .ty "str") (by rfl) T.z_str (by decide +kernel) rfl) pa_nil)))))
      (pss_one (ps_ret pe_bl)) pss_nil)
      (pss_one (ps_ret (pe_cmpR op_eq (pe_op op_add (pe_bm PySem.F.plainAttrs_str PySem.F.slot_str_count PySem.F.type_str_count mt_count (pv 0) (pa_cons pe_str pa_nil)) (pe_bm PySem.F.plainAttrs_str PySem.F.slot_str_count PySem.F.type_str_count mt_count (pv 0) (pa_cons pe_str pa_nil))) (pe_callB call_len_str (by rfl) T.z_len PySem.boot_len (pa_cons (pv 0) pa_nil)) (nomark _))))), ?_⟩
    rcases h with ⟨⟨t, ht, mt⟩, q⟩ | ⟨l, rfl, ll, q⟩
    · refine ⟨_, rfl, _, _, _, _, false, rfl, ClsV.ty _, TyX.base ht, isS_no mt, _, rfl, ?_⟩
      exact q
    · have hl : (sOf l).length ≤ sizeLine := by
        rw [sOf_len]
        exact sz (by omega)
      refine ⟨_, rfl, _, _, _, _, true, rfl, ClsV.ty _, TyX.base (.str _), isS_yes, _, rfl, ?_⟩
      refine ⟨_, rfl, rfl, _, _, rfl, rfl, _, rfl, rfl, _, _, rfl, rfl, _, _, rfl, rfl, _, rfl, _, rfl, hl, rfl, ?_⟩
      rw [← bits_counted] at q
      exact q

/-! ### whole numbers told of things -/
theorem int_yes : PySem.W.kitOne K (.type "int") (.type "int") = some true := kit_ty (by decide +kernel)
theorem intB_no : PySem.W.kitOne K (.type "int") (.type "bool") = some false := kit_ty (by decide +kernel)
theorem blI_yes : PySem.W.kitOne K (.type "bool") (.type "int") = some true := kit_ty (by decide +kernel)
theorem blB_yes : PySem.W.kitOne K (.type "bool") (.type "bool") = some true := kit_ty (by decide +kernel)
theorem isI_no {t : String} (h : t ∈ ["NoneType", "str", "list", "tuple"]) : PySem.W.kitOne K (.type t) (.type "int") = some false := by
  have : ∀ t ∈ ["NoneType", "str", "list", "tuple"], kitB t "int" = some false := by decide +kernel
  exact kit_ty (this t h)
def spWhole (K : PySem.W.Frag) : Sp := fun vs H Q _ => ∃ v : V, vs = [v] ∧ ((∃ n : Int, v = .int n ∧ Q (.bl true) H) ∨ (∃ b : Bool, v = .bl b ∧ Q (.bl false) H) ∨ ∃ t, TyOf K H v (.type t) ∧ t ∈ ["NoneType", "str", "list", "tuple"] ∧ Q (.bl false) H)
theorem ok_is_whole {A : Ad} (T : Txt w K mg base A) : FnOk P w K mg base CX0 1 A.a_is_whole A.d_is_whole P_is_whole (spWhole K) := by
  refine T.F_is_whole.ok sc_is_whole (fun vs H Q E h => ?_) (fun cdv Ar outer s H vs Q E hr h => ?_)
  · obtain ⟨v, rfl, _⟩ := h
    rfl
  · obtain ⟨v, rfl, h⟩ := h
    refine ⟨_, (pss_one (ps_ret (pe_and (pe_callB (r := rIsi K) call_isi (by rfl) T.z_isinstance (by decide +kernel) (pa_cons (pv 0) (pa_cons (pe_bltn (v := .ty "int") (by rfl) T.z_int (by decide +kernel) rfl) pa_nil))) (pe_one (pe_not (pe_callB (r := rIsi K) call_isi (by rfl) T.z_isinstance (by decide +kernel) (pa_cons (pv 0) (pa_cons (pe_bltn (v := .ty "bool") (by rfl) T.z_bool (by decide +kernel) rfl) pa_nil)))))))), ?_⟩
    rcases h with ⟨n, rfl, q⟩ | ⟨b, rfl, q⟩ | ⟨t, ht, mt, q⟩
    · exact ⟨_, rfl, _, _, _, _, true, rfl, ClsV.ty _, TyX.base (.int _), int_yes, _, rfl, iteT ⟨_, rfl, _, _, _, _, false, rfl, ClsV.ty _, TyX.base (.int _), intB_no, _, rfl, q⟩⟩
    · exact ⟨_, rfl, _, _, _, _, true, rfl, ClsV.ty _, TyX.base (.bl _), blI_yes, _, rfl, iteT ⟨_, rfl, _, _, _, _, true, rfl, ClsV.ty _, TyX.base (.bl _), blB_yes, _, rfl, q⟩⟩
    · exact ⟨_, rfl, _, _, _, _, false, rfl, ClsV.ty _, TyX.base ht, isI_no mt, _, rfl, iteF q⟩

/-! ### a gathering is made, and asked -/
def spGInit (C : Addr) : Sp := fun vs H Q _ => ∃ (p dx : Addr) (m : Nat) (x : Int), vs = [.ref p, .int x] ∧ x = m ∧ H p = some (.ins C dx []) ∧ ∀ (d : Addr) (H' : Hp), H d = none → (∀ b o, b ≠ p → H b = some o → H' b = some o) → GatAt C H' p d m [] → Q .non H'
theorem ok_Gathering___init__ {A : Ad} (T : Txt w K mg base A) : FnOk P w K mg base CX0 1 A.a_Gathering___init__ A.d_Gathering___init__ P_Gathering___init__ (spGInit A.C_Gathering) := by
  refine T.F_Gathering___init__.ok sc_Gathering___init__ (fun vs H Q E h => ?_) (fun cdv Ar outer s H vs Q E hr h => ?_)
  · obtain ⟨p, dx, m, x, rfl, _⟩ := h
    rfl
  · obtain ⟨p, dx, m, _, rfl, rfl, hp, q⟩ := h
    refine ⟨_, (pss_cons (ps_fld (pv 0) (pv 1) rfl)
      (pss_one (ps_fld (pv 0) pe_dnewK rfl))), ?_⟩
    refine ⟨_, rfl, _, rfl, p, _, dx, [], rfl, hp, T.cl_Gathering, T.n_Gathering_many, (by show 0 < 1000; decide), fun d hd => ?_⟩
    have pd : p ≠ d := ne_of_none upd_same hd
    have hdn : H d = none := by
      rw [upd_ne pd.symm] at hd
      exact hd
    refine ⟨_, rfl, p, _, dx, _, rfl, (by rw [upd_ne pd]; exact upd_same), T.cl_Gathering, T.n_Gathering_pieces, (by show 1 < 1000; decide), ?_⟩
    refine q d _ hdn (fun b o nb e => ?_) ⟨⟨dx, ?_⟩, ?_⟩
    · rw [upd_ne nb, upd_ne (ne_of_none e hdn), upd_ne nb]
      exact e
    · rw [upd_same]
      show some (HO.ins A.C_Gathering dx (putF (Str.ofString "pieces") (.ref d) [(Str.ofString "many", V.int (m : Int))])) = _
      rw [putF_miss (by decide +kernel)]
      rfl
    · rw [upd_ne pd.symm, upd_same]
      rfl
def iV' (k : Nat) : V := .int (k : Int)
def spLack (C : Addr) : Sp := fun vs H Q _ => ∃ (p d : Addr) (m : Nat) (ks : Pc), vs = [.ref p] ∧ GatAt C H p d m ks ∧ m ≤ 1000 ∧ ∀ q H', H q = none → Same H H' → H' q = some (.lst ((lackL m ks).map iV')) → Q (.ref q) H'
theorem lack_more (ks : Pc) (i : Nat) : lackL (i + 1) ks = if (pcGet ks i).isNone = true then lackL i ks ++ [i] else lackL i ks := by
  unfold lackL
  rw [List.range_succ, List.filter_append]
  cases e : (pcGet ks i).isNone <;> simp [e]
theorem isNone_not (o : Option (List Nat)) : (!(o.map fun b => V.str (sOf b)).isSome) = o.isNone := by
  cases o <;> rfl
theorem ok_Gathering_lacking {A : Ad} (T : Txt w K mg base A) : FnOk P w K mg base CX0 1 A.a_Gathering_lacking A.d_Gathering_lacking P_Gathering_lacking (spLack A.C_Gathering) := by
  refine T.F_Gathering_lacking.ok sc_Gathering_lacking (fun vs H Q E h => ?_) (fun cdv Ar outer s H vs Q E hr h => ?_)
  · obtain ⟨p, d, m, ks, rfl, _⟩ := h
    rfl
  · obtain ⟨p, d, m, ks, rfl, ⟨⟨dx, hp⟩, hd⟩, m1, q⟩ := h
    refine ⟨_, (pss_one (ps_ret (pe_lc (own := [("number", 1)]) (g := gName 1) (by rfl) sc_Gathering_lacking.nd (pi_range1 (by rfl) T.z_range (pa_cons (pe_fld (pv 0) rfl) pa_nil)) (blkOk_by (own := [("number", 1)]) (N := N_Gathering_lacking) (sc := defScope s_Gathering_lacking) (by decide +kernel)) (fun _ _ _ _ _ => pg_name (i := 1) sc_Gathering_lacking.nd rfl (Or.inl rfl)) (fun _ _ _ _ _ => (pts_one (pt_cmp (pc_dnotin (hu_of hr) (pv 1) (pe_fldK (K := K) rfl (pv 0) rfl))))) (fun s5 H5 C5 cl5 fp5 => (pv 1))))), ?_⟩
    refine ⟨_, rfl, p, _, dx, _, _, rfl, hp, T.cl_Gathering, T.n_Gathering_many, gat_many _ _, _, rfl, by omega, by omega, fun D hD => ?_⟩
    rw [Int.toNat_natCast]
    refine lc_range (lo := 0) (n := m) (fun i H' => Same H H' ∧ H' D = some (.lst ((lackL i ks).map iV'))) ⟨same_new hD, upd_same⟩ ?_ ?_
    · rintro i H1 hi ⟨sm, hD1⟩
      refine ⟨rfl, _, rfl, _, rfl, p, _, dx, _, _, rfl, sm _ _ hp, T.cl_Gathering, T.n_Gathering_pieces, gat_pieces _ _, d, _, rfl, DGet.k (k := .inl (0 + (i : Int))) (sm _ _ hd), _, rfl, ?_⟩
      rw [Int.zero_add, pcK_val, isNone_not]
      cases e : (pcGet ks i).isNone with
      | true =>
        refine iteT ⟨_, rfl, _, hD1, ?_, Same.mut sm hD, ?_⟩
        · rw [List.length_map]
          have := lack_len i ks
          exact szl (by omega)
        · rw [upd_same, lack_more, if_pos e, List.map_append]
          rfl
      | false =>
        refine iteF ⟨sm, ?_⟩
        rw [lack_more, if_neg (by rw [e]; decide)]
        exact hD1
    · rintro H1 ⟨sm, hD1⟩
      exact q D H1 hD sm hD1
def JV (m : Nat) (ks : Pc) : V := if lackL m ks = [] then .str (sOf (joinL m ks)) else .non
def spJoined (C : Addr) : Sp := fun vs H Q _ => ∃ (p d : Addr) (m : Nat) (ks : Pc), vs = [.ref p] ∧ GatAt C H p d m ks ∧ m ≤ 100 ∧ PcOk m ks ∧ ∀ H', Same H H' → Q (JV m ks) H'
theorem join_list (m : Nat) (ks : Pc) : joinL m ks = ((List.range m).map fun n => (pcGet ks n).getD []).flatten := rfl
theorem get_full {m n : Nat} {ks : Pc} (h : lackL m ks = []) (hn : n < m) : ∃ b, pcGet ks n = some b := by
  cases e : pcGet ks n with
  | some b => exact ⟨b, rfl⟩
  | none =>
    have : n ∈ lackL m ks := List.mem_filter.mpr ⟨List.mem_range.mpr hn, by rw [e]; rfl⟩
    rw [h] at this
    cases this
theorem ok_Gathering_joined {A : Ad} (T : Txt w K mg base A) : FnOk P w K mg base CX0 1 A.a_Gathering_joined A.d_Gathering_joined P_Gathering_joined (spJoined A.C_Gathering) := by
  refine T.F_Gathering_joined.ok sc_Gathering_joined (fun vs H Q E h => ?_) (fun cdv Ar outer s H vs Q E hr h => ?_)
  · obtain ⟨p, d, m, ks, rfl, _⟩ := h
    rfl
  · obtain ⟨p, d, m, ks, rfl, ⟨⟨dx, hp⟩, hd⟩, m1, ok, q⟩ := h
    refine ⟨_, (pss_cons (ps_if (pt_cmpR op_lt (pe_callB call_lenD (by rfl) T.z_len PySem.boot_len (pa_cons (pe_fld (pv 0) rfl) pa_nil)) (pe_fld (pv 0) rfl) (nomark _))
      (pss_one (ps_ret pe_non)) pss_nil)
      (pss_one (ps_ret (pe_join pe_str (pe_lc (own := [("number", 1)]) (g := gName 1) (tt := tYes) (by rfl) sc_Gathering_joined.nd (pi_range1 (by rfl) T.z_range (pa_cons (pe_fld (pv 0) rfl) pa_nil)) (blkOk_by (own := [("number", 1)]) (N := N_Gathering_joined) (sc := defScope s_Gathering_joined) (by decide +kernel)) (fun _ _ _ _ _ => pg_name (i := 1) sc_Gathering_joined.nd rfl (Or.inl rfl)) (fun _ _ _ _ _ => pts_nil) (fun s5 H5 C5 cl5 fp5 => (pe_dget (hu_of hr) (pe_fldK (K := K) rfl (pv 0) rfl) (pv 1) (fun _ _ => rfl)))))))), ?_⟩
    have pl : (pcK ks).length = ks.length := List.length_map ..
    have fi := full_iff ok
    refine ⟨_, rfl, p, _, dx, _, _, rfl, hp, T.cl_Gathering, T.n_Gathering_pieces, gat_pieces _ _, d, _, rfl, hd, _, rfl, p, _, dx, _, _, rfl, hp, T.cl_Gathering, T.n_Gathering_many, gat_many _ _, _, _, rfl, rfl, _, rfl, ?_⟩
    by_cases z : ks.length < m
    · refine iteD1 (by omega) ?_
      have := q H (Same.refl H)
      unfold JV at this
      rw [if_neg (fi.mp z)] at this
      exact this
    · refine iteD0 (by omega) ?_
      have full : lackL m ks = [] := by
        by_cases y : lackL m ks = []
        · exact y
        · exact absurd (fi.mpr y) z
      refine ⟨⟨_, rfl⟩, _, rfl, p, _, dx, _, _, rfl, hp, T.cl_Gathering, T.n_Gathering_many, gat_many _ _, _, rfl, by omega, by omega, fun D hD => ?_⟩
      rw [Int.toNat_natCast]
      refine lc_range (lo := 0) (n := m) (fun i H' => Same H H' ∧ H' D = some (.lst (((List.range i).map fun n => (pcGet ks n).getD []).map sV))) ⟨same_new hD, upd_same⟩ ?_ ?_
      · rintro i H1 hi ⟨sm, hD1⟩
        obtain ⟨bi, hbi⟩ := get_full full hi
        have dg : DGet H1 d (.int (0 + (i : Int))) (some (.str (sOf bi))) := by
          have := DGet.k (k := .inl (0 + (i : Int))) (sm _ _ hd)
          rw [Int.zero_add, pcK_val, hbi] at this
          rw [Int.zero_add]
          exact this
        refine ⟨rfl, _, rfl, p, _, dx, _, _, rfl, sm _ _ hp, T.cl_Gathering, T.n_Gathering_pieces, gat_pieces _ _, _, rfl, d, _, rfl, dg, _, hD1, ?_, Same.mut sm hD, ?_⟩
        · rw [List.length_map, List.length_map, List.length_range]
          exact szl (by omega)
        · rw [upd_same, List.range_succ, List.map_append, List.map_append]
          show some (HO.lst (_ ++ [V.str (sOf bi)])) = some (HO.lst (_ ++ [sV ((pcGet ks i).getD [])]))
          rw [hbi]
          rfl
      · rintro H1 ⟨sm, hD1⟩
        have jo := join_ok ok
        refine ⟨_, _, ((List.range m).map fun n => (pcGet ks n).getD []).map sOf, rfl, rfl, .inl (SqL.of (by rw [← sV_strs]; exact hD1)), join_flat_size (by rw [← join_list]; omega), ?_⟩
        rw [join_flat, ← join_list]
        have := q H1 sm
        unfold JV at this
        rw [if_pos full] at this
        exact this

--SPLIT
/-! ### the error's kinds -/
def spClasses (D : Addr) : Addr → Value → Option Addr → Sp := fun a cls d vs H Q _ => cls = .ref D ∧ d = none ∧ vs = [.ref a] ∧ ∀ r H', H r = none → Same H H' → H' r = some (.lst [.int 4]) → Q (.ref r) H'
def flg : List V := [.bl false, .bl false, .bl false, .bl false, .bl true, .bl false, .bl false, .bl false, .bl false]
theorem flg_at {i : Nat} (h : i < 9) : atI flg (0 + (i : Int)) = some (.bl (decide (i = 4))) := by
  rcases (show i = 0 ∨ i = 1 ∨ i = 2 ∨ i = 3 ∨ i = 4 ∨ i = 5 ∨ i = 6 ∨ i = 7 ∨ i = 8 by omega) with rfl | rfl | rfl | rfl | rfl | rfl | rfl | rfl | rfl <;> rfl
theorem ok_classes {A : Ad} (T : Txt w K mg base A) : FnP P w K mg base 1 A.a_classes A.d_classes P_classes (spClasses A.x_NoPiece) := by
  refine fnP_of T.F_classes sc_classes (fun a cls d vs H Q E h => ?_) (fun cdv Ar outer s H vs Q p cls d hot hz hr h => ?_)
  · obtain ⟨_, _, rfl, _⟩ := h
    rfl
  · obtain ⟨rfl, rfl, rfl, q⟩ := h
    have hf : ∃ vs, p.2.data = .fields vs := hot.2.elim fun vs e => ⟨vs, e.1⟩
    have hc : HotC (cxH CX0 P w K mg base N_classes (Str.ofString "_law_classes") (defScope s_classes) A.a_classes cdv Ar outer s H E0 p) := ⟨p, ⟨hot.1, hot.2⟩, List.mem_singleton.mpr rfl⟩
    refine ⟨_, (pss_cons (ps_set (i := 1) sc_classes.nd rfl (by first | exact Or.inl rfl | exact Or.inr rfl) (pe_lst (pa_cons (pe_callB (r := rIsE K A.x_NoPiece p.1) (call_isPin (X := cxH CX0 P w K mg base N_classes (Str.ofString "_law_classes") (defScope s_classes) A.a_classes cdv Ar outer s H E0 p) T.xe (List.mem_singleton.mpr rfl) hz hf) (by rfl) T.z_isinstance (by decide +kernel) (pa_cons (pv 0) (pa_cons (pe_glob (v := .ref A.x_NoPage) (by rfl) T.xg_NoPage rfl) pa_nil))) (pa_cons (pe_callB (r := rIsE K A.x_NoPiece p.1) (call_isPin (X := cxH CX0 P w K mg base N_classes (Str.ofString "_law_classes") (defScope s_classes) A.a_classes cdv Ar outer s H E0 p) T.xe (List.mem_singleton.mpr rfl) hz hf) (by rfl) T.z_isinstance (by decide +kernel) (pa_cons (pv 0) (pa_cons (pe_glob (v := .ref A.x_NoWords) (by rfl) T.xg_NoWords rfl) pa_nil))) (pa_cons (pe_callB (r := rIsE K A.x_NoPiece p.1) (call_isPin (X := cxH CX0 P w K mg base N_classes (Str.ofString "_law_classes") (defScope s_classes) A.a_classes cdv Ar outer s H E0 p) T.xe (List.mem_singleton.mpr rfl) hz hf) (by rfl) T.z_isinstance (by decide +kernel) (pa_cons (pv 0) (pa_cons (pe_glob (v := .ref A.x_NoTelling) (by rfl) T.xg_NoTelling rfl) pa_nil))) (pa_cons (pe_callB (r := rIsE K A.x_NoPiece p.1) (call_isPin (X := cxH CX0 P w K mg base N_classes (Str.ofString "_law_classes") (defScope s_classes) A.a_classes cdv Ar outer s H E0 p) T.xe (List.mem_singleton.mpr rfl) hz hf) (by rfl) T.z_isinstance (by decide +kernel) (pa_cons (pv 0) (pa_cons (pe_glob (v := .ref A.x_NoFrame) (by rfl) T.xg_NoFrame rfl) pa_nil))) pa_nil))))))
      (pss_cons (ps_set (i := 1) sc_classes.nd rfl (by first | exact Or.inl rfl | exact Or.inr rfl) (pe_op op_cat (pv 1) (pe_lst (pa_cons (pe_callB (r := rIsE K A.x_NoPiece p.1) (call_isPin (X := cxH CX0 P w K mg base N_classes (Str.ofString "_law_classes") (defScope s_classes) A.a_classes cdv Ar outer s H E0 p) T.xe (List.mem_singleton.mpr rfl) hz hf) (by rfl) T.z_isinstance (by decide +kernel) (pa_cons (pv 0) (pa_cons (pe_glob (v := .ref A.x_NoPiece) (by rfl) T.xg_NoPiece rfl) pa_nil))) (pa_cons (pe_callB (r := rIsE K A.x_NoPiece p.1) (call_isPin (X := cxH CX0 P w K mg base N_classes (Str.ofString "_law_classes") (defScope s_classes) A.a_classes cdv Ar outer s H E0 p) T.xe (List.mem_singleton.mpr rfl) hz hf) (by rfl) T.z_isinstance (by decide +kernel) (pa_cons (pv 0) (pa_cons (pe_glob (v := .ref A.x_NoName) (by rfl) T.xg_NoName rfl) pa_nil))) (pa_cons (pe_callB (r := rIsE K A.x_NoPiece p.1) (call_isPin (X := cxH CX0 P w K mg base N_classes (Str.ofString "_law_classes") (defScope s_classes) A.a_classes cdv Ar outer s H E0 p) T.xe (List.mem_singleton.mpr rfl) hz hf) (by rfl) T.z_isinstance (by decide +kernel) (pa_cons (pv 0) (pa_cons (pe_glob (v := .ref A.x_NoEnds) (by rfl) T.xg_NoEnds rfl) pa_nil))) (pa_cons (pe_callB (r := rIsE K A.x_NoPiece p.1) (call_isPin (X := cxH CX0 P w K mg base N_classes (Str.ofString "_law_classes") (defScope s_classes) A.a_classes cdv Ar outer s H E0 p) T.xe (List.mem_singleton.mpr rfl) hz hf) (by rfl) T.z_isinstance (by decide +kernel) (pa_cons (pv 0) (pa_cons (pe_glob (v := .ref A.x_NoCall) (by rfl) T.xg_NoCall rfl) pa_nil))) pa_nil)))))))
      (pss_cons (ps_expr (pe_bm PySem.F.plainAttrs_list PySem.F.slot_list_append PySem.F.type_list_append mt_append (pv 1) (pa_cons (pe_callB (r := rIsE K A.x_NoPiece p.1) (call_isPin (X := cxH CX0 P w K mg base N_classes (Str.ofString "_law_classes") (defScope s_classes) A.a_classes cdv Ar outer s H E0 p) T.xe (List.mem_singleton.mpr rfl) hz hf) (by rfl) T.z_isinstance (by decide +kernel) (pa_cons (pv 0) (pa_cons (pe_glob (v := .ref A.x_NoSaying) (by rfl) T.xg_NoSaying rfl) pa_nil))) pa_nil)))
      (pss_one (ps_ret (FpT.pe_lcHotI (own := [("_law_k", 2)]) (g := gName 2) hc sc_classes.nd (pi_range1H (by rfl) T.z_range (pa_cons pe_int pa_nil)) (blkOk_by (own := [("_law_k", 2)]) (N := N_classes) (sc := defScope s_classes) (by decide +kernel)) (fun _ _ _ _ _ => pg_name (i := 2) sc_classes.nd rfl (Or.inl rfl)) (fun _ _ _ _ _ => pts_one (PW.pt (pw_and (pt_val (pe_ix (r := rIxL K) ix_list (pv 1) (pv 2) (fun _ _ => rfl))) (pw_and1 (pt_val (pe_callB (r := rIsE K A.x_NoPiece p.1) (FpT.call_isPinK rfl T.xe (by exact List.mem_singleton.mpr rfl) hz hf) (by rfl) T.z_isinstance (by decide +kernel) (pa_cons (pv 0) (pa_cons (pe_bltn (v := .ty "ValueError") (by rfl) T.z_ValueError (by decide +kernel) rfl) pa_nil)))))))) (fun _ _ _ _ _ => (pv 2)))))))), ?_⟩
    refine ⟨_, rfl, _, .ref _, false, rfl, (fun u h => h), T.ki_NoPage, _, rfl, _, .ref _, false, rfl, (fun u h => h), T.ki_NoWords, _, rfl, _, .ref _, false, rfl, (fun u h => h), T.ki_NoTelling, _, rfl, _, .ref _, false, rfl, (fun u h => h), T.ki_NoFrame, (by show 4 ≤ sizeLine; decide), fun p1 hp1 => ?_⟩
    refine ⟨_, rfl, _, rfl, _, .ref _, true, rfl, (fun u h => h), T.ki_NoPiece, _, rfl, _, .ref _, false, rfl, (fun u h => h), T.ki_NoName, _, rfl, _, .ref _, false, rfl, (fun u h => h), T.ki_NoEnds, _, rfl, _, .ref _, false, rfl, (fun u h => h), T.ki_NoCall, (by show 4 ≤ sizeLine; decide), fun p2 hp2 => ?_⟩
    refine ⟨_, _, _, _, rfl, rfl, (by rw [upd_ne (ne_of_none upd_same hp2)]; exact upd_same), upd_same, (by show 8 ≤ sizeLine; decide), fun p3 hp3 => ?_⟩
    refine ⟨_, rfl, .inl ⟨rfl, _, SqL.of upd_same⟩, _, rfl, _, .ref _, false, rfl, (fun u h => h), T.ki_NoSaying, p3, _, _, rfl, rfl, upd_same, (by show 8 < sizeLine; decide), ?_⟩
    rw [upd_upd]
    have sA : Same H (upd (upd (upd H p1 (.lst [.bl false, .bl false, .bl false, .bl false])) p2 (.lst [.bl true, .bl false, .bl false, .bl false])) p3 (.lst flg)) := ((same_new hp1).trans (same_new hp2)).trans (same_new hp3)
    rw [show ([V.bl false, V.bl false, V.bl false, V.bl false] ++ [V.bl true, V.bl false, V.bl false, V.bl false] ++ [V.bl false]) = flg from rfl]
    have hS : (upd (upd (upd H p1 (.lst [.bl false, .bl false, .bl false, .bl false])) p2 (.lst [.bl true, .bl false, .bl false, .bl false])) p3 (.lst flg)) p3 = some (.lst flg) := upd_same
    revert sA hS
    generalize (upd (upd (upd H p1 (.lst [.bl false, .bl false, .bl false, .bl false])) p2 (.lst [.bl true, .bl false, .bl false, .bl false])) p3 (.lst flg)) = G
    intro sA hS
    refine ⟨_, rfl, by decide, by decide, fun D hD => lc_range (lo := 0) (n := 9) (fun i H' => Same G H' ∧ H' D = some (.lst (if i ≤ 4 then [] else [.int 4]))) ⟨same_new hD, upd_same⟩ ?_ ?_⟩
    · rintro i H1 hi ⟨sm, hD1⟩
      refine ⟨rfl, _, rfl, _, rfl, _, _, _, _, rfl, rfl, SqL.of (sm _ _ hS), flg_at hi, _, rfl, ?_⟩
      by_cases e3 : i = 4
      · refine iteD1 e3 ?_
        refine ⟨_, rfl, _, .type "ValueError", true, rfl, (fun u h => h), T.kv, _, rfl, ?_⟩
        refine iteT ⟨_, rfl, _, hD1, ?_, Same.mut sm hD, ?_⟩
        · split <;> decide
        · subst e3
          exact upd_same
      · refine iteD0 e3 ?_
        refine iteF ⟨sm, ?_⟩
        rw [hD1]
        by_cases l3 : i ≤ 4
        · rw [if_pos l3, if_pos (show i + 1 ≤ 4 by omega)]
        · rw [if_neg l3, if_neg (show ¬ i + 1 ≤ 4 by omega)]
    · rintro H1 ⟨sm, hD1⟩
      exact q D H1 (by
        cases e : H D with
        | none => rfl
        | some o => rw [sA _ _ e] at hD; cases hD) (sA.trans sm) hD1

--SPLIT
/-! ### alike -/
def LkOk (d : PyData) : Prop := DOk d 40 ∧ ShOk d 100000
def spLike (K : PySem.W.Frag) : Sp := fun vs H Q _ => ∃ (x y : V) (d : PyData), vs = [x, y] ∧ Dp K H x d ∧ Dp K H y d ∧ LkOk d ∧ Q (.bl true) H
theorem ok_like {A : Ad} (T : Txt w K mg base A) : FpG.FnG P w K mg base CX0 1 A.a_like A.d_like P_like (spLike K) := by
  refine FpG.okG T.F_like sc_like (fun vs H Q E h => ?_) (fun cdv Ar outer s H vs Q E hgd hr h => ?_)
  · obtain ⟨x, y, d, rfl, _⟩ := h
    rfl
  · obtain ⟨x, y, d, rfl, h1, h2, ⟨dk, sk⟩, q⟩ := h
    refine ⟨_, (pss_one (ps_ret (pe_and (pe_cmpR (r := rEqD K) (op_eqD hr.units) (pv 0) (pv 1) (nomark _)) (pe_one (pe_cmpR op_eq (pe_callB (r := FpG.rRepr K) (FpG.call_reprD hgd hr) (by rfl) T.z_repr (by decide +kernel) (pa_cons (pv 0) pa_nil)) (pe_callB (r := FpG.rRepr K) (FpG.call_reprD hgd hr) (by rfl) T.z_repr (by decide +kernel) (pa_cons (pv 1) pa_nil)) (nomark _)))))), ?_⟩
    refine ⟨_, rfl, _, rfl, d, d, h1, h2, dk.shaped, dk.shaped, _, rfl, ?_⟩
    rw [dk.refl]
    refine iteT ?_
    have dp : d.depth ≤ 50 := by
      have := dk.2
      omega
    refine ⟨_, rfl, x, d, rfl, h1, sk.1, dk.1, dp, sz sk.2, _, rfl, y, d, rfl, h2, sk.1, dk.1, dp, sz sk.2, rfl, ?_⟩
    rw [decide_eq_true rfl]
    exact q

theorem ints_lk {ns : List Nat} (h : ∀ n ∈ ns, n < 128) (l : ns.length ≤ 1000) : LkOk (.list (ns.map fun (n : Nat) => PyData.int (n : Int))) := by
  refine ⟨(DOk.list (n := 0) fun n _ => DOk.int _).mono (by decide), (ShOk.list (n := 4) fun n hn => ShOk.nat (h n hn)).mono ?_⟩
  omega
def jD (m : Nat) (ks : Pc) : PyData := if lackL m ks = [] then .str (sOf (joinL m ks)) else .none
theorem bts_codes {l : List Nat} (h : Bts l) : Codes l := fun c hc => by
  rcases h c hc with e | e <;> omega
theorem jD_lk {m : Nat} {ks : Pc} (ok : PcOk m ks) (h : m ≤ 60) : LkOk (jD m ks) := by
  have jo := join_ok ok
  unfold jD
  split
  · exact ⟨(DOk.str (bts_codes jo.1)).mono (by decide), (ShOk.str (bts_codes jo.1)).mono (by omega)⟩
  · exact ⟨DOk.none.mono (by decide), ShOk.none.mono (by decide)⟩
theorem dp_j {K : PySem.W.Frag} {H : Hp} (m : Nat) (ks : Pc) : Dp K H (JV m ks) (jD m ks) := by
  unfold JV jD
  split
  · exact .str _
  · exact .non
--SPLIT
/-! ### things -/
def Th6 (b : Addr) (H : Hp) (v : V) : Prop := v = .non ∨ (∃ x, v = .bl x) ∨ (∃ i, v = .int i) ∨ (∃ l : List Nat, v = .str (sOf l) ∧ l.length ≤ 100) ∨ (∃ a xs, v = .ref a ∧ a ≠ b ∧ H a = some (.lst xs)) ∨ ∃ a xs, v = .ref a ∧ a ≠ b ∧ H a = some (.tup xs)
theorem Th6.keep {b : Addr} {H H' : Hp} {v : V} (h : Th6 b H v) (kp : ∀ a o, a ≠ b → ((∃ xs, o = .lst xs) ∨ ∃ xs, o = .tup xs) → H a = some o → H' a = some o) : Th6 b H' v := by
  rcases h with h | h | h | h | ⟨a, xs, h, n, e⟩ | ⟨a, xs, h, n, e⟩
  · exact .inl h
  · exact .inr (.inl h)
  · exact .inr (.inr (.inl h))
  · exact .inr (.inr (.inr (.inl h)))
  · exact .inr (.inr (.inr (.inr (.inl ⟨a, xs, h, n, kp _ _ n (.inl ⟨_, rfl⟩) e⟩))))
  · exact .inr (.inr (.inr (.inr (.inr ⟨a, xs, h, n, kp _ _ n (.inr ⟨_, rfl⟩) e⟩))))
theorem Th6.same {b : Addr} {H H' : Hp} {v : V} (h : Th6 b H v) (s : Same H H') : Th6 b H' v := h.keep fun _ _ _ _ e => s _ _ e
theorem Th6.bx {b : Addr} {H H' : Hp} {v : V} (h : Th6 b H v) (x : Bx4 b H H') : Th6 b H' v := h.keep fun _ _ n _ e => x.2 _ _ n e
theorem th6_str {b : Addr} {H : Hp} {z : Str} (h : z.length ≤ 100) : Th6 b H (.str z) := .inr (.inr (.inr (.inl ⟨z.cps.toList, by rw [← str_sOf], by rw [Array.length_toList]; exact h⟩)))
theorem th6_int {b : Addr} {H : Hp} (i : Int) : Th6 b H (.int i) := .inr (.inr (.inl ⟨i, rfl⟩))
theorem th6_bl {b : Addr} {H : Hp} (i : Bool) : Th6 b H (.bl i) := .inr (.inl ⟨i, rfl⟩)
theorem th6_lst {b a : Addr} {H : Hp} {xs : List V} (n : a ≠ b) (e : H a = some (.lst xs)) : Th6 b H (.ref a) := .inr (.inr (.inr (.inr (.inl ⟨a, xs, rfl, n, e⟩))))
theorem th6_tup {b a : Addr} {H : Hp} {xs : List V} (n : a ≠ b) (e : H a = some (.tup xs)) : Th6 b H (.ref a) := .inr (.inr (.inr (.inr (.inr ⟨a, xs, rfl, n, e⟩))))
/-- a number, a truth, or neither -/
theorem Th6.num {b : Addr} {H : Hp} {v : V} (h : Th6 b H v) : (∃ i, v = .int i) ∨ (∃ x, v = .bl x) ∨ ((∀ i, v ≠ .int i) ∧ ∃ t, TyOf K H v (.type t) ∧ t ∈ ["NoneType", "str", "list", "tuple"]) := by
  rcases h with rfl | h | h | ⟨l, rfl, _⟩ | ⟨a, xs, rfl, n, e⟩ | ⟨a, xs, rfl, n, e⟩
  · exact .inr (.inr ⟨(fun i z => by cases z), "NoneType", .non, by decide⟩)
  · exact .inr (.inl h)
  · exact .inl h
  · exact .inr (.inr ⟨(fun i z => by cases z), "str", .str _, by decide⟩)
  · exact .inr (.inr ⟨(fun i z => by cases z), "list", .lst e, by decide⟩)
  · exact .inr (.inr ⟨(fun i z => by cases z), "tuple", .tup e, by decide⟩)
/-- a text, or none -/
theorem Th6.txt {b : Addr} {H : Hp} {v : V} (h : Th6 b H v) : (∃ l : List Nat, v = .str (sOf l) ∧ l.length ≤ 100) ∨ ((∀ z, v ≠ .str z) ∧ NoTxt K H v) := by
  rcases h with rfl | ⟨x, rfl⟩ | ⟨i, rfl⟩ | h | ⟨a, xs, rfl, n, e⟩ | ⟨a, xs, rfl, n, e⟩
  · exact .inr ⟨(fun i z => by cases z), "NoneType", .non, by decide⟩
  · exact .inr ⟨(fun i z => by cases z), "bool", .bl _, by decide⟩
  · exact .inr ⟨(fun i z => by cases z), "int", .int _, by decide⟩
  · exact .inl h
  · exact .inr ⟨(fun i z => by cases z), "list", .lst e, by decide⟩
  · exact .inr ⟨(fun i z => by cases z), "tuple", .tup e, by decide⟩
def IsPc (m : Nat) (nv bv : V) (n : Nat) (bt : List Nat) : Prop := nv = .int (n : Int) ∧ n < m ∧ bv = .str (sOf bt) ∧ Bts bt ∧ 1 ≤ bt.length ∧ bt.length ≤ 100
theorem pick_at {xs : List V} {j : Int} (j0 : 0 ≤ j) (j1 : j < (xs.length : Int)) : ∃ v, atI xs j = some v ∧ v ∈ xs := by
  obtain ⟨k, rfl⟩ := Int.eq_ofNat_of_zero_le j0
  have hk : k < xs.length := by omega
  exact ⟨xs[k], atI_nat (List.getElem?_eq_getElem hk), List.getElem_mem hk⟩
def spAnyNum : Sp := fun vs H Q _ => ∃ (b : Addr) (m : Nat) (x : Int), vs = [.ref b, .int x] ∧ x = m ∧ Bag4 H b ∧ 1 ≤ m ∧ m ≤ 16 ∧ ∀ v H', Bx4 b H H' → Th6 b H' v → Q v H'
theorem ok_any_number {A : Ad} (T : Txt w K mg base A) : FnOk P w K mg base CX0 2 A.a_any_number A.d_any_number P_any_number spAnyNum := by
  have G_take := ok_take (P := P) (w := w) (base := base) T
  refine T.F_any_number.ok sc_any_number (fun vs H Q E h => ?_) (fun cdv Ar outer s H vs Q E hr h => ?_)
  · obtain ⟨b, m, x, rfl, _⟩ := h
    rfl
  · obtain ⟨b, m, _, rfl, rfl, hb, m0, m1, q⟩ := h
    refine ⟨_, (pss_cons (ps_set (i := 2) sc_any_number.nd rfl (Or.inl rfl) (pe_call G_take (hr.mono (by decide)) (by rfl) T.g_take T.F_take.kp T.b_take .nil pass0 (pa_cons (pv 0) (pa_cons pe_int pa_nil))))
      (pss_cons (ps_if (pt_cmpR op_lt (pv 2) pe_int (nomark _))
      (pss_one (ps_ret (pe_call G_take (hr.mono (by decide)) (by rfl) T.g_take T.F_take.kp T.b_take .nil pass0 (pa_cons (pv 0) (pa_cons (pv 1) pa_nil))))) pss_nil)
      (pss_cons (ps_if (pt_cmpR op_eq (pv 2) pe_int (nomark _))
      (pss_one (ps_ret (pe_op op_sub (pe_call G_take (hr.mono (by decide)) (by rfl) T.g_take T.F_take.kp T.b_take .nil pass0 (pa_cons (pv 0) (pa_cons pe_int pa_nil))) pe_int))) pss_nil)
      (pss_one (ps_ret (pe_ix (r := rIxL K) ix_list (pe_lstW (pa_cons pe_non (pa_cons pe_bl (pa_cons pe_bl (pa_cons pe_str (pa_cons (pe_tupW (pa_cons pe_int pa_nil)) (pa_cons (pe_lstW (pa_cons pe_int pa_nil)) (pa_cons (pe_op op_pow pe_int pe_int) (pa_cons (pe_un un_neg pe_int) (pa_cons (pv 1) (pa_cons (pe_op op_sub (pv 1) pe_int) pa_nil))))))))))) (pe_call G_take (hr.mono (by decide)) (by rfl) T.g_take T.F_take.kp T.b_take .nil pass0 (pa_cons (pv 0) (pa_cons pe_int pa_nil))) (fun _ _ => rfl))))))), ?_⟩
    refine ⟨_, rfl, b, 4, rfl, hb, by decide, by decide, fun way H1 w0 w1 x1 => ?_⟩
    refine ⟨_, rfl, _, _, rfl, rfl, _, rfl, ite2 (fun e => ?_) (fun e => ?_)⟩
    · exact ⟨_, rfl, _, rfl, b, m, rfl, x1.1, by omega, by omega, fun d H2 d0 d1 x2 => q _ H2 (x1.trans x2) (th6_int _)⟩
    refine ⟨_, rfl, rfl, _, rfl, ite2 (fun e => ?_) (fun e => ?_)⟩
    · exact ⟨_, rfl, b, 21, rfl, x1.1, by omega, by omega, fun d H2 d0 d1 x2 => ⟨_, _, rfl, rfl, q _ H2 (x1.trans x2) (th6_int _)⟩⟩
    refine ⟨(by show 1 ≤ 100000; decide), fun p1 I1 n1 s1 h1 => ⟨(by show 1 ≤ 100000; decide), fun p2 I2 n2 s2 h2 => ⟨_, _, rfl, rfl, ⟨by decide, by decide, by decide⟩, _, rfl, _, rfl, _, rfl, _, _, rfl, rfl, (by show 10 ≤ 100000; decide), fun p3 I3 n3 s3 h3 => ?_⟩⟩⟩
    have y1 := x1.same s1
    have y2 := y1.same s2
    have y3 := y2.same s3
    refine ⟨_, rfl, b, 10, rfl, y3.1, by decide, by decide, fun d H2 d0 d1 x2 => ?_⟩
    obtain ⟨v, hv, mv⟩ := pick_at (xs := [.non, .bl true, .bl false, .str (Str.ofString "0"), .ref p1, .ref p2, .int (10 ^ 29), .int (-1), .int (m : Int), .int ((m : Int) - 1)]) d0 (by show d < 10; exact d1)
    refine ⟨_, _, _, v, rfl, rfl, SqL.of (x2.2 _ _ (y2.1.ne n3) h3), hv, q v H2 (y3.trans x2) ?_⟩
    simp only [List.mem_cons, List.not_mem_nil, or_false] at mv
    rcases mv with rfl | rfl | rfl | rfl | rfl | rfl | rfl | rfl | rfl | rfl
    · exact .inl rfl
    · exact th6_bl _
    · exact th6_bl _
    · exact th6_str (by decide +kernel)
    · exact th6_tup (x1.1.ne n1) (x2.2 _ _ (x1.1.ne n1) ((s2.trans s3) _ _ h1))
    · exact th6_lst (y1.1.ne n2) (x2.2 _ _ (y1.1.ne n2) (s3 _ _ h2))
    · exact th6_int _
    · exact th6_int _
    · exact th6_int _
    · exact th6_int _
def spPcBits : Sp := fun vs H Q _ => ∃ b : Addr, vs = [.ref b] ∧ Bag4 H b ∧ ∀ v H', Bx4 b H H' → Th6 b H' v → Q v H'
theorem ok_piece_bits {A : Ad} (T : Txt w K mg base A) : FnOk P w K mg base CX0 3 A.a_piece_bits A.d_piece_bits P_piece_bits spPcBits := by
  have G_take := ok_take (P := P) (w := w) (base := base) T
  have G_any_bits := ok_any_bits (P := P) (w := w) (base := base) T
  refine T.F_piece_bits.ok sc_piece_bits (fun vs H Q E h => ?_) (fun cdv Ar outer s H vs Q E hr h => ?_)
  · obtain ⟨b, rfl, _⟩ := h
    rfl
  · obtain ⟨b, rfl, hb, q⟩ := h
    refine ⟨_, (pss_cons (ps_set (i := 1) sc_piece_bits.nd rfl (Or.inl rfl) (pe_call G_take (hr.mono (by decide)) (by rfl) T.g_take T.F_take.kp T.b_take .nil pass0 (pa_cons (pv 0) (pa_cons pe_int pa_nil))))
      (pss_cons (ps_if (pt_cmpR op_lt (pv 1) pe_int (nomark _))
      (pss_one (ps_ret (pe_call G_any_bits (hr.mono (by decide)) (by rfl) T.g_any_bits T.F_any_bits.kp T.b_any_bits .nil pass0 (pa_cons (pv 0) (pa_cons (pe_op op_add pe_int (pe_call G_take (hr.mono (by decide)) (by rfl) T.g_take T.F_take.kp T.b_take .nil pass0 (pa_cons (pv 0) (pa_cons pe_int pa_nil)))) pa_nil))))) pss_nil)
      (pss_cons (ps_if (pt_cmpR op_eq (pv 1) pe_int (nomark _))
      (pss_one (ps_ret (pe_ix (r := rIxL K) ix_list (pe_lstW (pa_cons pe_str (pa_cons pe_str (pa_cons pe_str (pa_cons pe_str (pa_cons pe_str (pa_cons pe_str (pa_cons pe_str pa_nil)))))))) (pe_call G_take (hr.mono (by decide)) (by rfl) T.g_take T.F_take.kp T.b_take .nil pass0 (pa_cons (pv 0) (pa_cons pe_int pa_nil))) (fun _ _ => rfl)))) pss_nil)
      (pss_one (ps_ret (pe_ix (r := rIxL K) ix_list (pe_lstW (pa_cons pe_non (pa_cons pe_bl (pa_cons pe_int (pa_cons pe_int (pa_cons (pe_lstW (pa_cons pe_str (pa_cons pe_str pa_nil))) (pa_cons (pe_tupW (pa_cons pe_str pa_nil)) (pa_cons (pe_lstW pa_nil) (pa_cons pe_str pa_nil))))))))) (pe_call G_take (hr.mono (by decide)) (by rfl) T.g_take T.F_take.kp T.b_take .nil pass0 (pa_cons (pv 0) (pa_cons pe_int pa_nil))) (fun _ _ => rfl))))))), ?_⟩
    refine ⟨_, rfl, b, 4, rfl, hb, by decide, by decide, fun way H1 w0 w1 x1 => ?_⟩
    refine ⟨_, rfl, _, _, rfl, rfl, _, rfl, ite2 (fun e => ?_) (fun e => ?_)⟩
    · refine ⟨_, rfl, _, rfl, b, 20, rfl, x1.1, by omega, by omega, fun d H2 d0 d1 x2 => ?_⟩
      obtain ⟨k, rfl⟩ := Int.eq_ofNat_of_zero_le d0
      exact ⟨_, _, rfl, rfl, b, 1 + k, _, rfl, (by omega), x2.1, by omega, fun l H3 ll bl x3 => q _ H3 (x1.trans (x2.trans x3)) (.inr (.inr (.inr (.inl ⟨l, rfl, by omega⟩))))⟩
    refine ⟨_, rfl, rfl, _, rfl, ite2 (fun e => ?_) (fun e => ?_)⟩
    · refine ⟨(by show 7 ≤ 100000; decide), fun p1 I1 n1 s1 h1 => ?_⟩
      have y1 := x1.same s1
      refine ⟨_, rfl, b, 7, rfl, y1.1, by decide, by decide, fun d H2 d0 d1 x2 => ?_⟩
      obtain ⟨v, hv, mv⟩ := pick_at (xs := [.str (Str.ofString ""), .str (Str.ofString "0"), .str (Str.ofString "1"), .str (Str.ofString "2"), .str (Str.ofString "01 "), .str (Str.ofString "0a"), .str (Str.ofString "1/")]) d0 (by show d < 7; exact d1)
      refine ⟨_, _, _, v, rfl, rfl, SqL.of (x2.2 _ _ (x1.1.ne n1) h1), hv, q v H2 (y1.trans x2) ?_⟩
      simp only [List.mem_cons, List.not_mem_nil, or_false] at mv
      rcases mv with rfl | rfl | rfl | rfl | rfl | rfl | rfl <;> exact th6_str (by decide +kernel)
    refine ⟨(by show 2 ≤ 100000; decide), fun p1 I1 n1 s1 h1 => ⟨(by show 1 ≤ 100000; decide), fun p2 I2 n2 s2 h2 => ⟨(by show 0 ≤ 100000; decide), fun p3 I3 n3 s3 h3 => ⟨(by show 8 ≤ 100000; decide), fun p4 I4 n4 s4 h4 => ?_⟩⟩⟩⟩
    have y1 := x1.same s1
    have y2 := y1.same s2
    have y3 := y2.same s3
    have y4 := y3.same s4
    refine ⟨_, rfl, b, 8, rfl, y4.1, by decide, by decide, fun d H2 d0 d1 x2 => ?_⟩
    obtain ⟨v, hv, mv⟩ := pick_at (xs := [.non, .bl true, .int 1, .int 0, .ref p1, .ref p2, .ref p3, .str (Str.ofString "")]) d0 (by show d < 8; exact d1)
    refine ⟨_, _, _, v, rfl, rfl, SqL.of (x2.2 _ _ (y3.1.ne n4) h4), hv, q v H2 (y4.trans x2) ?_⟩
    simp only [List.mem_cons, List.not_mem_nil, or_false] at mv
    rcases mv with rfl | rfl | rfl | rfl | rfl | rfl | rfl | rfl
    · exact .inl rfl
    · exact th6_bl _
    · exact th6_int _
    · exact th6_int _
    · exact th6_lst (x1.1.ne n1) (x2.2 _ _ (x1.1.ne n1) ((s2.trans (s3.trans s4)) _ _ h1))
    · exact th6_tup (y1.1.ne n2) (x2.2 _ _ (y1.1.ne n2) ((s3.trans s4) _ _ h2))
    · exact th6_lst (y2.1.ne n3) (x2.2 _ _ (y2.1.ne n3) (s4 _ _ h3))
    · exact th6_str (by decide +kernel)
--SPLIT
def spIsPc : Sp := fun vs H Q _ => ∃ (b : Addr) (nv bv : V) (m : Nat) (x : Int), vs = [nv, bv, .int x] ∧ x = m ∧ Th6 b H nv ∧ Th6 b H bv ∧ (∀ n bt, IsPc m nv bv n bt → Q (.bl true) H) ∧ ((∀ n bt, ¬ IsPc m nv bv n bt) → Q (.bl false) H)
theorem ok_is_piece {A : Ad} (T : Txt w K mg base A) : FnOk P w K mg base CX0 1 A.a_is_piece A.d_is_piece P_is_piece spIsPc := by
  refine T.F_is_piece.ok sc_is_piece (fun vs H Q E h => ?_) (fun cdv Ar outer s H vs Q E hr h => ?_)
  · obtain ⟨b, nv, bv, m, x, rfl, _⟩ := h
    rfl
  · obtain ⟨b, nv, bv, m, _, rfl, rfl, hn, hb, qy, qn⟩ := h
    refine ⟨_, (pss_cons (ps_if (PW.pt (pw_or (pt_not (pt_val (pe_callB (r := rIsi K) call_isi (by rfl) T.z_isinstance (by decide +kernel) (pa_cons (pv 0) (pa_cons (pe_bltn (v := .ty "int") (by rfl) T.z_int (by decide +kernel) rfl) pa_nil))))) (pw_or (pt_val (pe_callB (r := rIsi K) call_isi (by rfl) T.z_isinstance (by decide +kernel) (pa_cons (pv 0) (pa_cons (pe_bltn (v := .ty "bool") (by rfl) T.z_bool (by decide +kernel) rfl) pa_nil)))) (pw_or1 (pt_not (pt_chain op_le op_lt pe_int (pv 0) (pv 2)))))))
      (pss_one (ps_ret pe_bl)) pss_nil)
      (pss_one (ps_ret (pe_and (pe_callB (r := rIsi K) call_isi (by rfl) T.z_isinstance (by decide +kernel) (pa_cons (pv 1) (pa_cons (pe_bltn (v := .ty "str") (by rfl) T.z_str (by decide +kernel) rfl) pa_nil))) (FpT.pe_andB (FpT.be_cmpR op_ne (pv 1) FpT.be_str (nomark _)) (FpT.ne_one (FpT.ne_cmpR op_eq (FpT.ne_rpl (by omega) (FpT.ne_rpl (by omega) (FpT.NE.of (pv 1)) (by decide +kernel)) (by decide +kernel)) (FpT.NE.of pe_str) (nomark _)))))))), ?_⟩
    rcases hn.num (K := K) with ⟨i, rfl⟩ | ⟨x, rfl⟩ | ⟨no, t, ht, mt⟩
    · refine ⟨_, rfl, _, _, _, _, true, rfl, ClsV.ty _, TyX.base (.int _), int_yes, _, rfl, _, rfl, _, _, _, _, false, rfl, ClsV.ty _, TyX.base (.int _), intB_no, _, rfl, ?_⟩
      refine ⟨_, rfl, _, _, rfl, rfl, _, rfl, ?_⟩
      by_cases i0 : 0 ≤ i
      case neg =>
        refine iteD0 i0 ⟨_, rfl, ?_⟩
        refine qn fun n bt z => ?_
        have := V.int.inj z.1
        omega
      refine iteD1 i0 ⟨_, rfl, _, _, rfl, rfl, _, rfl, ?_⟩
      by_cases im : i < m
      case neg =>
        refine iteN1 im ?_
        refine qn fun n bt z => ?_
        have := V.int.inj z.1
        have := z.2.1
        omega
      refine iteN0 im ?_
      obtain ⟨n, rfl⟩ := Int.eq_ofNat_of_zero_le i0
      rcases hb.txt (K := K) with ⟨l, rfl, ll⟩ | ⟨no, t, ht, mt⟩
      · have ol := outs_len l
        refine ⟨_, rfl, _, _, _, _, true, rfl, ClsV.ty _, TyX.base (.str _), isS_yes, _, rfl, ?_⟩
        rw [show Str.ofString "" = sOf [] by decide +kernel] at ol ⊢
        refine iteT ⟨_, rfl, rfl, _, rfl, ?_⟩
        by_cases l0 : l = []
        · refine iteN0 (by rw [l0]) ?_
          refine qn fun n bt z => ?_
          have e := sOf_inj (V.str.inj z.2.2.1)
          have := z.2.2.2.2.1
          rw [← e, l0] at this
          cases this
        refine iteN1 (fun z => l0 (sOf_inj (V.str.inj z))) ?_
        refine ⟨_, rfl, _, rfl, (by rw [sOf_len]; show l.length + (l.length + 1) * 0 ≤ 16777216; omega), _, rfl, (by show _ + (_ + 1) * 0 ≤ 16777216; omega), rfl, ?_⟩
        rw [show sOf [] = Str.ofString "" by decide +kernel, outs_is, show Str.ofString "" = sOf [] by decide +kernel]
        cases bl : isB l with
        | true =>
          rw [decide_eq_true (vstr.mpr ((outs_bits l).mpr bl))]
          exact qy n l ⟨rfl, by omega, rfl, isB_iff.mp bl, List.length_pos_iff.mpr l0, ll⟩
        | false =>
          rw [decide_eq_false fun z => by rw [(outs_bits l).mp (vstr.mp z)] at bl; cases bl]
          refine qn fun n bt z => ?_
          have e := sOf_inj (V.str.inj z.2.2.1)
          rw [e, isB_iff.mpr z.2.2.2.1] at bl
          cases bl
      · refine ⟨_, rfl, _, _, _, _, false, rfl, ClsV.ty _, TyX.base ht, isS_no mt, _, rfl, iteF ?_⟩
        exact qn fun n bt z => no _ z.2.2.1
    · refine ⟨_, rfl, _, _, _, _, true, rfl, ClsV.ty _, TyX.base (.bl _), blI_yes, _, rfl, _, rfl, _, _, _, _, true, rfl, ClsV.ty _, TyX.base (.bl _), blB_yes, _, rfl, ?_⟩
      exact qn fun n bt z => by cases z.1
    · refine ⟨_, rfl, _, _, _, _, false, rfl, ClsV.ty _, TyX.base ht, isI_no mt, _, rfl, ?_⟩
      exact qn fun n bt z => no _ z.1
/-! ### a piece is taken, or refused -/
def spGTakeX (C D : Addr) : Sp := fun vs H Q E => ∃ (b p d : Addr) (nv bv : V) (m : Nat) (ks : Pc), vs = [.ref p, nv, bv] ∧ Th6 b H nv ∧ Th6 b H bv ∧ GatAt C H p d m ks ∧ m ≤ 1000 ∧ ks.length ≤ 1000 ∧
  (∀ n bt, IsPc m nv bv n bt → ∀ H', (∀ x o, x ≠ d → H x = some o → H' x = some o) → GatAt C H' p d m (putP ks n bt) → Q .non H') ∧ ((∀ n bt, ¬ IsPc m nv bv n bt) → E (.ref D) none H)
theorem ok_Gathering_take {A : Ad} (T : Txt w K mg base A) : FnOk P w K mg base (L2N.CX P w) 2 A.a_Gathering_take A.d_Gathering_take P_Gathering_take (spGTakeX A.C_Gathering A.x_NoPiece) := by
  have G_is_whole := ok_is_whole (P := P) (w := w) (base := base) T
  have G_is_bits := ok_is_bits (P := P) (w := w) (base := base) T
  refine Fp.okXN T.F_Gathering_take sc_Gathering_take (fun vs H Q E h => ?_) (fun cdv Ar outer s H vs Q E hr h => ?_)
  · obtain ⟨b, p, d, nv, bv, m, ks, rfl, _⟩ := h
    rfl
  · obtain ⟨b, p, d, nv, bv, m, ks, rfl, hn, hb, ⟨⟨dx, hp⟩, hd⟩, m1, lk, qy, qn⟩ := h
    refine ⟨_, (pss_cons (ps_if (PW.pt (pw_or (pt_not (pt_val (pe_call G_is_whole (hr.mono (by decide)) (by rfl) T.g_is_whole T.F_is_whole.kp T.b_is_whole .nil pass0 (pa_cons (pv 1) pa_nil)))) (pw_or1 (pt_not (pt_chain op_le op_lt pe_int (pv 1) (pe_fld (pv 0) rfl))))))
      (pss_one (L2N.ps_raise rfl (L2N.takes_of rfl rfl rfl rfl) (L2N.pmk_own PySem.F.excBase_ValueError T.xq_NoPiece T.xg_NoPiece T.xk_NoPiece (raises_own T.xs_NoPiece T.xt_NoPiece) (by rfl)))) pss_nil)
      (pss_cons (ps_if (PW.pt (pw_or (pt_not (pt_val (pe_call G_is_bits (hr.mono (by decide)) (by rfl) T.g_is_bits T.F_is_bits.kp T.b_is_bits .nil pass0 (pa_cons (pv 2) pa_nil)))) (pw_or1 (pt_cmpR op_eq (pv 2) pe_str (nomark _)))))
      (pss_one (L2N.ps_raise rfl (L2N.takes_of rfl rfl rfl rfl) (L2N.pmk_own PySem.F.excBase_ValueError T.xq_NoPiece T.xg_NoPiece T.xk_NoPiece (raises_own T.xs_NoPiece T.xt_NoPiece) (by rfl)))) pss_nil)
      (pss_one (ps_if (pt_cmp (pc_dnotin (hu_of hr) (pv 1) (pe_fld (pv 0) rfl)))
      (pss_one (ps_asg (pv 2) (pg_sub (pe_fld (pv 0) rfl) (pv 1) (set_dict (hu_of hr))))) pss_nil)))), ?_⟩
    have pd : p ≠ d := fun z => by
      rw [z, hd] at hp
      cases hp
    rcases hn.num (K := K) with ⟨i, rfl⟩ | ⟨x, rfl⟩ | ⟨no, t, ht, mt⟩
    · refine ⟨_, rfl, _, rfl, .inl ⟨_, rfl, _, rfl, ?_⟩⟩
      refine ⟨_, rfl, _, _, rfl, rfl, _, rfl, ?_⟩
      by_cases i0 : 0 ≤ i
      case neg =>
        refine iteD0 i0 ⟨_, rfl, ?_⟩
        refine qn fun n bt z => ?_
        have := V.int.inj z.1
        omega
      refine iteD1 i0 ⟨_, rfl, p, _, dx, _, _, rfl, hp, T.cl_Gathering, T.n_Gathering_many, gat_many _ _, _, _, rfl, rfl, _, rfl, ?_⟩
      by_cases im : i < m
      case neg =>
        refine iteN1 im ?_
        refine qn fun n bt z => ?_
        have := V.int.inj z.1
        have := z.2.1
        omega
      refine iteN0 im ?_
      obtain ⟨n, rfl⟩ := Int.eq_ofNat_of_zero_le i0
      rcases hb.txt (K := K) with ⟨bt, rfl, ll⟩ | ⟨no, nt⟩
      · refine ⟨_, rfl, _, rfl, .inr ⟨bt, rfl, by omega, _, rfl, ?_⟩⟩
        cases bl : isB bt with
        | false =>
          refine qn fun n bt z => ?_
          have e := sOf_inj (V.str.inj z.2.2.1)
          rw [e, isB_iff.mpr z.2.2.2.1] at bl
          cases bl
        | true =>
        rw [show Str.ofString "" = sOf [] by decide +kernel]
        refine ⟨_, rfl, rfl, _, rfl, ?_⟩
        by_cases l0 : bt = []
        · refine iteD1 (by rw [l0]) ?_
          refine qn fun n bt' z => ?_
          have e := sOf_inj (V.str.inj z.2.2.1)
          have := z.2.2.2.2.1
          rw [← e, l0] at this
          cases this
        refine iteD0 (fun z => l0 (sOf_inj (V.str.inj z))) ?_
        have hpc : IsPc m (.int (n : Int)) (.str (sOf bt)) n bt := ⟨rfl, by omega, rfl, isB_iff.mp bl, List.length_pos_iff.mpr l0, ll⟩
        refine ⟨_, rfl, _, rfl, p, _, dx, _, _, rfl, hp, T.cl_Gathering, T.n_Gathering_pieces, gat_pieces _ _, d, _, rfl, DGet.k (k := .inl (n : Int)) hd, _, rfl, ?_⟩
        rw [pcK_val, isNone_not]
        cases e : (pcGet ks n).isNone with
        | true =>
          refine iteT ⟨_, rfl, _, rfl, p, _, dx, _, _, rfl, hp, T.cl_Gathering, T.n_Gathering_pieces, gat_pieces _ _, _, rfl, d, _, rfl, DPut.k (k := .inl (n : Int)) hd ?_, ?_⟩
          · show (pcK ks).length < _
            unfold pcK
            rw [List.length_map]
            exact szl (by omega)
          · refine qy n bt hpc _ (fun b o nb h => by rw [upd_ne nb]; exact h) ⟨⟨dx, by rw [upd_ne pd]; exact hp⟩, ?_⟩
            rw [upd_same, pcK_put bt (Option.isNone_iff_eq_none.mp e)]
            unfold putP
            rw [if_pos e]
        | false =>
          refine iteF ?_
          refine qy n bt hpc H (fun b o _ h => h) ⟨⟨dx, hp⟩, ?_⟩
          unfold putP
          rw [if_neg (by rw [e]; decide)]
          exact hd
      · refine ⟨_, rfl, _, rfl, .inl ⟨nt, _, rfl, ?_⟩⟩
        exact qn fun n bt z => no _ z.2.2.1
    · refine ⟨_, rfl, _, rfl, .inr (.inl ⟨_, rfl, _, rfl, ?_⟩)⟩
      exact qn fun n bt z => by cases z.1
    · refine ⟨_, rfl, _, rfl, .inr (.inr ⟨t, ht, mt, _, rfl, ?_⟩)⟩
      exact qn fun n bt z => no _ z.1
def tldV : List V := [.str (Str.ofString "told"), .non]
def refV (c : Addr) : List V := [.str (Str.ofString "refused"), .ref c]
def spTold (C : Addr) : Sp := fun vs H Q _ => ∃ (b p d : Addr) (nv bv : V) (m : Nat) (ks : Pc), vs = [.ref p, nv, bv] ∧ Th6 b H nv ∧ Th6 b H bv ∧ GatAt C H p d m ks ∧ m ≤ 1000 ∧ ks.length ≤ 1000 ∧
  (∀ n bt, IsPc m nv bv n bt → ∀ r H', (∀ x o, x ≠ d → H x = some o → H' x = some o) → GatAt C H' p d m (putP ks n bt) → H' r = some (.tup tldV) → Q (.ref r) H') ∧
  ((∀ n bt, ¬ IsPc m nv bv n bt) → ∀ r c H', Same H H' → H' c = some (.lst [.int 4]) → H' r = some (.tup (refV c)) → Q (.ref r) H')
theorem ok_told {A : Ad} (T : Txt w K mg base A) : FnOk P w K mg base CX0 3 A.a_told A.d_told P_told (spTold A.C_Gathering) := by
  have G_Gathering_take := ok_Gathering_take (P := P) (w := w) (base := base) T
  have G_classes := ok_classes (P := P) (w := w) (base := base) T
  refine T.F_told.ok sc_told (fun vs H Q E h => ?_) (fun cdv Ar outer s H vs Q E hr h => ?_)
  · obtain ⟨b, p, d, nv, bv, m, ks, rfl, _⟩ := h
    rfl
  · obtain ⟨b, p, d, nv, bv, m, ks, rfl, hn, hb, ⟨⟨dx, hp⟩, hd⟩, m1, lk, qy, qn⟩ := h
    refine ⟨_, (pss_cons (L2N.ps_try_as (i := 4) (Wout := fun _ _ _ _ => False) rfl rfl sc_told.nd rfl rfl ⟨rfl, by decide, Or.inl T.xg_FarError⟩ Fp.takes0N (fun W pn xe tk _ => (pss_one (ps_set (i := 3) sc_told.nd rfl (Or.inl rfl) (Fp.pe_methE (pv 0) T.cl_Gathering T.m_Gathering_take G_Gathering_take (hr.mono (by decide)) T.b_Gathering_take (fun σ => L2N.passAt tk σ) (pa_cons (pv 1) (pa_cons (pv 2) pa_nil)))))) (fun a oe cls d pn hz hf => (pss_one (ps_ret (pe_tup (pa_cons pe_str (pa_cons (pe_callE (a := a) (oe := oe) G_classes (roomH_mark (j := 1) hr (by decide)) (List.mem_cons_self ..) ⟨rfl, hf.elim fun vs e => ⟨vs, e, hz.2.2 vs e⟩⟩ hz.zc (by rfl) T.g_classes T.F_classes.kp T.b_classes (pa_cons (pv 4) pa_nil)) pa_nil)))))))
      (pss_one (ps_ret (pe_tup (pa_cons pe_str (pa_cons (pv 3) pa_nil)))))), ?_⟩
    refine ⟨_, rfl, p, dx, _, rfl, hp, gat_no (by decide +kernel) (by decide +kernel), _, rfl, _, rfl, b, p, d, nv, bv, m, ks, rfl, hn, hb, ⟨⟨dx, hp⟩, hd⟩, m1, lk, fun n bt z H1 kp g => ?_, fun no => ?_⟩
    · obtain ⟨⟨dx1, g1⟩, g2⟩ := g
      refine ⟨_, rfl, (by show 2 ≤ sizeLine; decide), fun r hr => qy n bt z r _ (fun x o nx e => ?_) ⟨⟨dx1, same_new hr _ _ g1⟩, same_new hr _ _ g2⟩ upd_same⟩
      exact same_new hr _ _ (kp x o nx e)
    · refine ⟨true, T.xm_FarError, fun _ e0 he0 => ?_, fun z => nomatch z⟩
      refine ⟨_, rfl, rfl, rfl, rfl, fun c H3 nc s3 hc => ⟨(by show 2 ≤ sizeLine; decide), fun r hr => ?_⟩⟩
      exact qn no r c _ (s3.trans (same_new hr)) (same_new hr _ _ hc) upd_same
--SPLIT
theorem bag_upd {b e : Addr} {H : Hp} {o : HO} (h : Bag4 H b) (n : e ≠ b) : Bag4 (upd H e o) b := by
  obtain ⟨g, s, p, k, hb, r⟩ := h
  exact ⟨g, s, p, k, by rw [upd_ne n.symm]; exact hb, r⟩
theorem ins_ne {b p C : Addr} {dx : Addr} {fs : List (Str × V)} {H : Hp} (h : Bag4 H b) (e : H p = some (.ins C dx fs)) : p ≠ b := fun z => by
  obtain ⟨g, s, p, k, hb, r⟩ := h
  rw [z, hb] at e
  cases e
theorem dk_ne {b p : Addr} {kvs : List (Key × V)} {H : Hp} (h : Bag4 H b) (e : H p = some (.dK kvs)) : p ≠ b := fun z => by
  obtain ⟨g, s, p, k, hb, r⟩ := h
  rw [z, hb] at e
  cases e
/-- the gathering, and what came beside -/
structure G6 (C b p d e : Addr) (m : Nat) (H0 H : Hp) (ks kt : Pc) : Prop where
  bag : Bag4 H b
  gat : GatAt C H p d m ks
  dct : H e = some (.dK (pcK kt))
  ok : PcOk m ks
  sm : Same H0 H
section
variable {C b p d e : Addr} {m : Nat} {H0 H H' : Hp} {ks kt : Pc}
theorem G6.same (h : G6 C b p d e m H0 H ks kt) (s : Same H H') : G6 C b p d e m H0 H' ks kt := by
  obtain ⟨⟨dx, g1⟩, g2⟩ := h.gat
  exact ⟨((Bx4.refl h.bag).same s).1, ⟨⟨dx, s _ _ g1⟩, s _ _ g2⟩, s _ _ h.dct, h.ok, h.sm.trans s⟩
theorem G6.bx (h : G6 C b p d e m H0 H ks kt) (nb : H0 b = none) (x : Bx4 b H H') : G6 C b p d e m H0 H' ks kt := by
  obtain ⟨⟨dx, g1⟩, g2⟩ := h.gat
  exact ⟨x.1, ⟨⟨dx, x.2 _ _ (ins_ne h.bag g1) g1⟩, x.2 _ _ (dk_ne h.bag g2) g2⟩, x.2 _ _ (dk_ne h.bag h.dct) h.dct, h.ok, fun c o q => x.2 _ _ (ne_of_none q nb) (h.sm _ _ q)⟩
theorem G6.pe (h : G6 C b p d e m H0 H ks kt) : p ≠ e := fun z => by
  obtain ⟨⟨dx, g1⟩, g2⟩ := h.gat
  rw [z, h.dct] at g1
  cases g1
theorem G6.put (h : G6 C b p d e m H0 H ks kt) (ne : H0 e = none) (de : d ≠ e) (k2 : Pc) : G6 C b p d e m H0 (upd H e (.dK (pcK k2))) ks k2 := by
  have pe := h.pe
  obtain ⟨⟨dx, g1⟩, g2⟩ := h.gat
  exact ⟨bag_upd h.bag (dk_ne h.bag h.dct), ⟨⟨dx, by rw [upd_ne pe]; exact g1⟩, by rw [upd_ne de]; exact g2⟩, upd_same, h.ok, Same.mut h.sm ne⟩
end
def spLaw (K : PySem.W.Frag) : Sp := fun vs H Q _ => ∃ (a : Addr) (ns : List Int), vs = [.ref a] ∧ SqL K H a (ns.map V.int) ∧ ns.length ≤ 63 ∧ ∀ H', Q (.bl true) H'
theorem tldE : PyData.eqv (.tuple [.str (Str.ofString "told"), .none]) (.tuple [.str (Str.ofString "told"), .none]) = true := by decide +kernel
theorem tldS : SeqAt.shaped (.tuple [.str (Str.ofString "told"), .none]) = true := by decide +kernel
theorem refE : PyData.eqv (.tuple [.str (Str.ofString "refused"), .list [.int 4]]) (.tuple [.str (Str.ofString "refused"), .list [.int 4]]) = true := by decide +kernel
theorem refS : SeqAt.shaped (.tuple [.str (Str.ofString "refused"), .list [.int 4]]) = true := by decide +kernel
theorem dp_t {H : Hp} {r : Addr} (h : H r = some (.tup tldV)) : Dp K H (.ref r) (.tuple [.str (Str.ofString "told"), .none]) := .tup (.inl (.inl h)) (.cons (.str _) (.cons .non .nil))
theorem dp_r {H : Hp} {r c : Addr} (h : H r = some (.tup (refV c))) (hc : H c = some (.lst [.int 4])) : Dp K H (.ref r) (.tuple [.str (Str.ofString "refused"), .list [.int 4]]) := .tup (.inl (.inl h)) (.cons (.str _) (.cons (.lst (SqL.of hc) (.cons (.int _) .nil)) .nil))
theorem ok_law {A : Ad} (T : Txt w K mg base A) : FpG.FnG P w K mg base CX0 4 A.a_law A.d_law P_law (spLaw K) := by
  have G_bag := ok_bag (P := P) (w := w) (base := base) T
  have G_Gathering___init__ := ok_Gathering___init__ (P := P) (w := w) (base := base) T
  have G_take := ok_take (P := P) (w := w) (base := base) T
  have G_any_number := ok_any_number (P := P) (w := w) (base := base) T
  have G_piece_bits := ok_piece_bits (P := P) (w := w) (base := base) T
  have G_is_piece := ok_is_piece (P := P) (w := w) (base := base) T
  have G_told := ok_told (P := P) (w := w) (base := base) T
  have G_like := ok_like (P := P) (w := w) (base := base) T
  have G_Gathering_lacking := ok_Gathering_lacking (P := P) (w := w) (base := base) T
  have G_Gathering_joined := ok_Gathering_joined (P := P) (w := w) (base := base) T
  refine FpG.okG T.F_law sc_law (fun vs H Q E h => ?_) (fun cdv Ar outer s H vs Q E hgd hr h => ?_)
  · obtain ⟨a, ns, rfl, _⟩ := h
    rfl
  · obtain ⟨a, ns, rfl, hS, ln, q⟩ := h
    refine ⟨_, (pss_cons (ps_for PassesOwn.never rfl (pi_range1 (by rfl) T.z_range (pa_cons (pe_callB (call_max2 rfl) (by rfl) T.z_max (by decide +kernel) (pa_cons pe_int (pa_cons (pe_callB (call_min2 rfl) (by rfl) T.z_min (by decide +kernel) (pa_cons pe_int (pa_cons (pe_callB (r := fun xs H Q => ∃ p ys, xs = [.ref p] ∧ (SqL K H p ys ∨ SqT K H p ys) ∧ Q (.int ys.length) H) call_len_seq (by rfl) T.z_len PySem.boot_len (pa_cons (pv 0) pa_nil)) pa_nil))) pa_nil))) pa_nil)) (pg_name (i := 1) sc_law.nd rfl (Or.inl rfl))
      (pss_cons (ps_set (i := 2) sc_law.nd rfl (Or.inl rfl) (pe_call G_bag (hr.mono (by decide)) (by rfl) T.g_bag T.F_bag.kp T.b_bag .nil pass0 (pa_cons (pv 0) (pa_cons (pv 1) pa_nil))))
      (pss_cons (ps_set (i := 3) sc_law.nd rfl (Or.inl rfl) (pe_op op_add pe_int (pe_call G_take (hr.mono (by decide)) (by rfl) T.g_take T.F_take.kp T.b_take .nil pass0 (pa_cons (pv 2) (pa_cons pe_int pa_nil)))))
      (pss_cons (ps_set (i := 4) sc_law.nd rfl (Or.inl rfl) (pe_make T.M_Gathering G_Gathering___init__ (hr.mono (by decide)) (by rfl) T.gC_Gathering T.b_Gathering___init__ .nil pass0 (pa_cons (pv 3) pa_nil)))
      (pss_cons (ps_set (i := 5) sc_law.nd rfl (by first | exact Or.inl rfl | exact Or.inr rfl) pe_dnewK)
      (pss_one (ps_for PassesOwn.never rfl (pi_range1 (by rfl) T.z_range (pa_cons (pe_op op_add pe_int (pe_call G_take (hr.mono (by decide)) (by rfl) T.g_take T.F_take.kp T.b_take .nil pass0 (pa_cons (pv 2) (pa_cons pe_int pa_nil)))) pa_nil)) (pg_name (i := 6) sc_law.nd rfl (Or.inl rfl))
      (pss_cons (ps_set (i := 7) sc_law.nd rfl (Or.inl rfl) (pe_call G_any_number (hr.mono (by decide)) (by rfl) T.g_any_number T.F_any_number.kp T.b_any_number .nil pass0 (pa_cons (pv 2) (pa_cons (pv 3) pa_nil))))
      (pss_cons (ps_set (i := 8) sc_law.nd rfl (Or.inl rfl) (pe_call G_piece_bits (hr.mono (by decide)) (by rfl) T.g_piece_bits T.F_piece_bits.kp T.b_piece_bits .nil pass0 (pa_cons (pv 2) pa_nil)))
      (pss_cons (ps_set (i := 9) sc_law.nd rfl (Or.inl rfl) (pe_tupW (pa_cons pe_str (pa_cons (pe_lstW (pa_cons pe_int pa_nil)) pa_nil))))
      (Evl.pss_cut (ps_if (pt_val (pe_call G_is_piece (hr.mono (by decide)) (by rfl) T.g_is_piece T.F_is_piece.kp T.b_is_piece .nil pass0 (pa_cons (pv 7) (pa_cons (pv 8) (pa_cons (pv 3) pa_nil)))))
      (pss_cons (ps_set (i := 9) sc_law.nd rfl (Or.inl rfl) (pe_tupW (pa_cons pe_str (pa_cons pe_non pa_nil))))
      (pss_one (ps_if (pt_cmp (pc_dnotin (hu_of hr) (pv 7) (pv 5)))
      (pss_one (ps_asg (pv 8) (pg_sub (pv 5) (pv 7) (set_dict (hu_of hr))))) pss_nil))) pss_nil)
      (Evl.pss_cut (ps_if (pt_cmpR (r := rNeD K) (op_neD hr.units) (pe_call G_told (hr.mono (by decide)) (by rfl) T.g_told T.F_told.kp T.b_told .nil pass0 (pa_cons (pv 4) (pa_cons (pv 7) (pa_cons (pv 8) pa_nil)))) (pv 9) (nomark _))
      (pss_one (ps_ret pe_bl)) pss_nil)
      (pss_cons (ps_setLc (i := 10) (own := [("_law_one", 12)]) (g := gName 12) (by rfl) sc_law.nd rfl rfl (sw_true rfl rfl rfl (by decide +kernel)) (pi_range1 (by rfl) T.z_range (pa_cons (pv 3) pa_nil)) (blkOk_by (own := [("_law_one", 12)]) (N := N_law) (sc := defScope s_law) (by decide +kernel)) (fun _ _ _ _ _ => pg_name (i := 12) sc_law.nd rfl (Or.inl rfl)) (fun _ _ _ _ _ => (pts_one (pt_cmp (pc_dnotin (hu_of hr) (pv 12) (pv 5))))) (fun s5 H5 C5 cl5 fp5 => (pv 12)))
      (pss_cons (ps_set (i := 11) sc_law.nd rfl (Or.inl rfl) pe_non)
      (Evl.pss_cut (ps_if (pt_cmpR (r := rEqD K) (op_eqD hr.units) (pv 10) (pe_lstW pa_nil) (nomark _))
      (pss_one (ps_set (i := 11) sc_law.nd rfl (Or.inl rfl) (pe_join pe_str (pe_lc (own := [("_law_one", 12)]) (g := gName 12) (tt := tYes) (by rfl) sc_law.nd (pi_range1 (by rfl) T.z_range (pa_cons (pv 3) pa_nil)) (blkOk_by (own := [("_law_one", 12)]) (N := N_law) (sc := defScope s_law) (by decide +kernel)) (fun _ _ _ _ _ => pg_name (i := 12) sc_law.nd rfl (Or.inl rfl)) (fun _ _ _ _ _ => pts_nil) (fun s5 H5 C5 cl5 fp5 => (pe_dget (hu_of hr) (pv 5) (pv 12) (fun _ _ => rfl))))))) pss_nil)
      (pss_one (ps_if (PW.pt (pw_or (pt_not (pt_val (FpG.pe_callG G_like hgd (hr.mono (by decide)) (by rfl) T.g_like T.F_like.kp T.b_like .nil pass0 (pa_cons (pe_meth0 (pv 4) T.cl_Gathering T.m_Gathering_lacking G_Gathering_lacking (hr.mono (by decide)) T.b_Gathering_lacking .nil pass0) (pa_cons (pv 10) pa_nil))))) (pw_or1 (pt_not (pt_val (FpG.pe_callG G_like hgd (hr.mono (by decide)) (by rfl) T.g_like T.F_like.kp T.b_like .nil pass0 (pa_cons (pe_meth0 (pv 4) T.cl_Gathering T.m_Gathering_joined G_Gathering_joined (hr.mono (by decide)) T.b_Gathering_joined .nil pass0) (pa_cons (pv 11) pa_nil))))))))
      (pss_one (ps_ret pe_bl)) pss_nil)))))))))))))))))
      (pss_one (ps_ret pe_bl))), ?_⟩
    refine ⟨_, rfl, _, _, rfl, .inl hS, _, _, rfl, _, _, rfl, _, rfl, ?_, ?_, for_range (fun i σ H' => ∃ y1 y2 y3 y4 y5 y6 y7 y8 y9 y10 y11 y12, σ = [some (.ref a), y1, y2, y3, y4, y5, y6, y7, y8, y9, y10, y11, y12] ∧ Same H H') ⟨none, none, none, none, none, none, none, none, none, none, none, none, rfl, Same.refl _⟩ ?_ ?_⟩
    · rw [List.length_map]
      split <;> split <;> omega
    · rw [List.length_map]
      split <;> split <;> omega
    · rintro i σ H2 hi ⟨y1, y2, y3, y4, y5, y6, y7, y8, y9, y10, y11, y12, rfl, e2⟩
      have hi8 : i < 8 := by
        rw [List.length_map] at hi
        revert hi
        split <;> split <;> omega
      refine ⟨_, rfl, _, rfl, a, ns, _, rfl, e2.seq hS, by omega, by omega, fun b G0 hb s0 B0 => ?_⟩
      refine ⟨_, rfl, b, 16, rfl, B0, by decide, by decide, fun x0 G1 a0 a1 bx1 => ⟨_, _, rfl, rfl, ?_⟩⟩
      obtain ⟨m, em⟩ := Int.eq_ofNat_of_zero_le (show 0 ≤ 1 + x0 by omega)
      have m1 : 1 ≤ m := by omega
      have m16 : m ≤ 16 := by omega
      refine ⟨_, rfl, fun p dx np ndx nex => ⟨p, dx, m, _, rfl, em, upd_same, fun d G2 nd kp g => ⟨rfl, ?_⟩⟩⟩
      have s2 : Same G1 G2 := fun c o e => kp c o (ne_of_none e np) (by rw [upd_ne (ne_of_none e np), upd_ne (ne_of_none e ndx)]; exact e)
      refine fun e he => ?_
      have f1 : Same H2 G1 := bx1.back s0 hb
      have nH2 : ∀ {G : Hp} {c : Addr}, Same H2 G → G c = none → H2 c = none := fun {G c} s n => by
        cases z : H2 c with
        | none => rfl
        | some u =>
          rw [s _ _ z] at n
          cases n
      have nd1 : G1 d = none := by
        by_cases z1 : d = p
        · rw [z1, upd_same] at nd
          cases nd
        · rw [upd_ne z1] at nd
          by_cases z2 : d = dx
          · rw [z2, upd_same] at nd
            cases nd
          · rw [upd_ne z2] at nd
            exact nd
      have nD := nH2 f1 nd1
      have nE := nH2 (f1.trans s2) he
      have de : d ≠ e := ne_of_none g.2 he
      have T3 : G6 A.C_Gathering b p d e m H2 (upd G2 e (.dK [])) [] [] := by
        obtain ⟨⟨dx1, g1⟩, g2⟩ := g
        exact ⟨((bx1.same s2).same (same_new he)).1, ⟨⟨dx1, same_new he _ _ g1⟩, same_new he _ _ g2⟩, upd_same, PcOk.nil _, (f1.trans s2).trans (same_new he)⟩
      revert T3
      generalize upd G2 e (.dK []) = G3
      intro T3
      refine ⟨_, rfl, b, 23, rfl, T3.bag, by decide, by decide, fun sI G4 sn0 sn1 bx4 => ?_⟩
      obtain ⟨sN, es⟩ := Int.eq_ofNat_of_zero_le (show 0 ≤ 2 + sI by omega)
      refine ⟨_, _, rfl, rfl, _, rfl, by omega, by omega, ?_⟩
      rw [show (2 + sI).toNat = sN by omega]
      refine for_range (lo := 0) (n := sN) (fun j σ H' => ∃ (ks : Pc) (y6 y7 y8 y9 y10 y11 y12 : Option V), σ = [some (.ref a), some (.int (0 + (i : Int))), some (.ref b), some (.int (1 + x0)), some (.ref p), some (.ref e), y6, y7, y8, y9, y10, y11, y12] ∧ G6 A.C_Gathering b p d e m H2 H' ks ks) ⟨[], _, _, _, _, _, _, _, rfl, T3.bx hb bx4⟩ ?_ ?_
      · rintro j σ G5 hj ⟨ks, y6, y7, y8, y9, y10, y11, y12, rfl, T5⟩
        refine ⟨_, rfl, _, rfl, b, m, _, rfl, em, T5.bag, m1, m16, fun nv I1 x1 tn1 => ⟨_, rfl, b, rfl, x1.1, fun bv I2 x2 tb2 => ?_⟩⟩
        have T7 := (T5.bx hb x1).bx hb x2
        have tn2 := tn1.bx x2
        refine ⟨(by show 1 ≤ 100000; decide), fun c I3 n3 s3 h3 => ⟨(by show 2 ≤ 100000; decide), fun r I4 n4 s4 h4 => ?_⟩⟩
        have s34 := s3.trans s4
        have T8 := T7.same s34
        have tn8 := tn2.same s34
        have tb8 := tb2.same s34
        refine ⟨fun σ H' => ∃ (kt : Pc) (dr : Addr), σ = [some (.ref a), some (.int (0 + (i : Int))), some (.ref b), some (.int (1 + x0)), some (.ref p), some (.ref e), some (.int (0 + (j : Int))), some nv, some bv, some (.ref dr), y10, y11, y12] ∧ G6 A.C_Gathering b p d e m H2 H' ks kt ∧ Th6 b H' nv ∧ Th6 b H' bv ∧
          ((∃ n bt, IsPc m nv bv n bt ∧ kt = putP ks n bt ∧ H' dr = some (.tup tldV)) ∨ ((∀ n bt, ¬ IsPc m nv bv n bt) ∧ kt = ks ∧ ∃ c, H' c = some (.lst [.int 4]) ∧ H' dr = some (.tup (refV c)))), ?_, ?_⟩
        · refine ⟨_, rfl, _, rfl, _, rfl, b, nv, bv, m, _, rfl, em, tn8, tb8, fun n bt z => ?_, fun no => ?_⟩
          · refine ⟨_, rfl, iteT ⟨(by show 2 ≤ 100000; decide), fun r2 I5 n5 s5 h5 => ?_⟩⟩
            have T9 := T8.same s5
            have tn9 := tn8.same s5
            have tb9 := tb8.same s5
            have zz := z
            obtain ⟨rfl, nm, rfl, bbt, l1, l2⟩ := z
            refine ⟨_, rfl, _, rfl, e, _, rfl, DGet.k (k := .inl (n : Int)) T9.dct, _, rfl, ?_⟩
            rw [pcK_val, isNone_not]
            cases w : (pcGet ks n).isNone with
            | true =>
              refine iteT ⟨_, rfl, _, rfl, _, rfl, e, _, rfl, DPut.k (k := .inl (n : Int)) T9.dct ?_, ?_⟩
              · show (pcK ks).length < _
                unfold pcK
                rw [List.length_map]
                have := T9.ok.len
                exact szl (by omega)
              · rw [pcK_put bt (Option.isNone_iff_eq_none.mp w)]
                have T10 := T9.put nE de (ks ++ [(n, bt)])
                have kp10 : ∀ a o, a ≠ b → ((∃ xs, o = .lst xs) ∨ ∃ xs, o = .tup xs) → I5 a = some o → (upd I5 e (.dK (pcK (ks ++ [(n, bt)])))) a = some o := fun a o _ k h => by
                  have ne : a ≠ e := fun z => by
                    rw [z, T9.dct] at h
                    cases h
                    rcases k with ⟨_, k⟩ | ⟨_, k⟩ <;> cases k
                  rw [upd_ne ne]
                  exact h
                refine ⟨_, r2, rfl, T10, tn9.keep kp10, tb9.keep kp10, .inl ⟨n, bt, zz, ?_, kp10 r2 _ (T8.bag.ne n5) (.inr ⟨_, rfl⟩) h5⟩⟩
                unfold putP
                rw [if_pos w]
            | false =>
              refine iteF ⟨ks, r2, rfl, T9, tn9, tb9, .inl ⟨n, bt, zz, ?_, h5⟩⟩
              unfold putP
              rw [if_neg (by rw [w]; decide)]
          · exact ⟨_, rfl, iteF ⟨ks, r, rfl, T8, tn8, tb8, .inr ⟨no, rfl, c, s4 _ _ h3, h4⟩⟩⟩
        rintro σ I5 ⟨kt, dr, rfl, T9, tn9, tb9, hc⟩
        refine ⟨fun σ H' => ∃ (kt : Pc) (nv bv : V) (dr : Addr), σ = [some (.ref a), some (.int (0 + (i : Int))), some (.ref b), some (.int (1 + x0)), some (.ref p), some (.ref e), some (.int (0 + (j : Int))), some nv, some bv, some (.ref dr), y10, y11, y12] ∧ G6 A.C_Gathering b p d e m H2 H' kt kt, ?_, ?_⟩
        · have lk := T9.ok.len
          refine ⟨_, rfl, _, rfl, _, rfl, b, p, d, nv, bv, m, ks, rfl, tn9, tb9, T9.gat, by omega, by omega, fun n bt z r I6 kp g10 hr => ?_, fun no r c I6 s6 hc6 hr => ?_⟩
          · rcases hc with ⟨n2, bt2, z2, rfl, hd⟩ | ⟨no, _⟩
            case inr => exact absurd z (no _ _)
            have en : n2 = n := by
              have := V.int.inj (z2.1.symm.trans z.1)
              omega
            have eb : bt2 = bt := sOf_inj (V.str.inj (z2.2.2.1.symm.trans z.2.2.1))
            subst en eb
            have dd : dr ≠ d := fun y => by
              rw [y, T9.gat.2] at hd
              cases hd
            refine ⟨_, rfl, _, _, dp_t hr, dp_t (kp _ _ dd hd), tldS, tldS, _, rfl, ?_⟩
            rw [tldE]
            refine iteF ⟨putP ks n2 bt2, nv, bv, dr, rfl, ?_⟩
            have bd : b ≠ d := (dk_ne T9.bag T9.gat.2).symm
            obtain ⟨gg, ss, pp, kk, hbg, rr⟩ := T9.bag
            exact ⟨⟨gg, ss, pp, kk, kp _ _ bd hbg, rr⟩, g10, kp _ _ de.symm T9.dct, T9.ok.put z.2.1 z.2.2.2.1 z.2.2.2.2.2, fun c o h => kp _ _ (ne_of_none h nD) (T9.sm _ _ h)⟩
          · rcases hc with ⟨n2, bt2, z2, _⟩ | ⟨_, rfl, c2, hc2, hd2⟩
            case inl => exact absurd z2 (no _ _)
            refine ⟨_, rfl, _, _, dp_r hr hc6, dp_r (s6 _ _ hd2) (s6 _ _ hc2), refS, refS, _, rfl, ?_⟩
            rw [refE]
            exact iteF ⟨kt, nv, bv, dr, rfl, T9.same s6⟩
        rintro σ I6 ⟨ks, nv, bv, dr, rfl, T10⟩
        -- what lacks
        refine ⟨_, rfl, _, rfl, by omega, by omega, fun D hD => ?_⟩
        rw [show (1 + x0).toNat = m by omega]
        have gpc := T10.gat
        have he10 := T10.dct
        refine lc_range (lo := 0) (n := m) (fun i H' => Same I6 H' ∧ H' D = some (.lst ((lackL i ks).map iV'))) ⟨same_new hD, upd_same⟩ ?_ ?_
        · rintro k J1 hk ⟨sm, hD1⟩
          refine ⟨rfl, _, rfl, _, rfl, e, _, rfl, DGet.k (k := .inl (0 + (k : Int))) (sm _ _ he10), _, rfl, ?_⟩
          rw [show (0 : Int) + (k : Int) = (k : Int) from Int.zero_add _, pcK_val, isNone_not]
          cases z : (pcGet ks k).isNone with
          | true =>
            refine iteT ⟨_, rfl, _, hD1, ?_, Same.mut sm hD, ?_⟩
            · rw [List.length_map]
              have := lack_len k ks
              exact szl (by omega)
            · rw [upd_same, lack_more, if_pos z, List.map_append]
              rfl
          | false =>
            refine iteF ⟨sm, ?_⟩
            rw [lack_more, if_neg (by rw [z]; decide)]
            exact hD1
        rintro J1 ⟨s1, hD1⟩
        have ok := T10.ok
        have ll := lack_len m ks
        have dL : ∀ {H' : Hp} {c : Addr}, H' c = some (.lst ((lackL m ks).map iV')) → Dp K H' (.ref c) (.list ((lackL m ks).map fun (n : Nat) => PyData.int (n : Int))) := fun h => .lst (SqL.of h) (dp_all fun n _ => .int _)
        have kL : LkOk (.list ((lackL m ks).map fun (n : Nat) => PyData.int (n : Int))) := ints_lk (fun n hn => by have := lack_lt hn; omega) (by omega)
        refine ⟨fun σ H' => ∃ y12 : Option V, σ = [some (.ref a), some (.int (0 + (i : Int))), some (.ref b), some (.int (1 + x0)), some (.ref p), some (.ref e), some (.int (0 + (j : Int))), some nv, some bv, some (.ref dr), some (.ref D), some (JV m ks), y12] ∧ Same I6 H' ∧ H' D = some (.lst ((lackL m ks).map iV')), ?_, ?_⟩
        · refine ⟨_, rfl, (by show 0 ≤ 100000; decide), fun p2 J2 np2 s2 hp2 => ?_⟩
          have sm := s1.trans s2
          have hD2 := s2 _ _ hD1
          refine ⟨_, .list [], dL hD2, .lst (SqL.of hp2) .nil, kL.1.shaped, (DOk.list (α := Nat) (f := fun _ => PyData.none) (n := 0) (xs := []) fun _ h => nomatch h).shaped, _, rfl, ?_⟩
          by_cases full : lackL m ks = []
          · have e1 : PyData.eqv (.list ((lackL m ks).map fun (n : Nat) => PyData.int (n : Int))) (.list []) = true := by
              rw [full]
              simp [PyData.eqv, PyData.eqvAll]
            rw [e1]
            refine iteT ?_
            refine ⟨⟨_, rfl⟩, _, rfl, _, rfl, by omega, by omega, fun D3 hD3 => ?_⟩
            rw [show (1 + x0).toNat = m by omega]
            refine lc_range (lo := 0) (n := m) (fun i H' => Same J2 H' ∧ H' D3 = some (.lst (((List.range i).map fun n => (pcGet ks n).getD []).map sV))) ⟨same_new hD3, upd_same⟩ ?_ ?_
            · rintro k G1 hk ⟨s3, hD4⟩
              obtain ⟨bi, hbi⟩ := get_full full hk
              have dg : DGet G1 e (.int (0 + (k : Int))) (some (.str (sOf bi))) := by
                have := DGet.k (k := .inl (0 + (k : Int))) ((sm.trans s3) _ _ he10)
                rw [Int.zero_add, pcK_val, hbi] at this
                rw [Int.zero_add]
                exact this
              refine ⟨rfl, _, rfl, _, rfl, e, _, rfl, dg, _, hD4, ?_, Same.mut s3 hD3, ?_⟩
              · rw [List.length_map, List.length_map, List.length_range]
                exact szl (by omega)
              · rw [upd_same, List.range_succ, List.map_append, List.map_append]
                show some (HO.lst (_ ++ [V.str (sOf bi)])) = some (HO.lst (_ ++ [sV ((pcGet ks k).getD [])]))
                rw [hbi]
                rfl
            · rintro G1 ⟨s3, hD4⟩
              have jo := join_ok ok
              refine ⟨_, _, ((List.range m).map fun n => (pcGet ks n).getD []).map sOf, rfl, rfl, .inl (SqL.of (by rw [← sV_strs]; exact hD4)), join_flat_size (by rw [← join_list]; omega), ?_⟩
              rw [join_flat, ← join_list]
              refine ⟨y12, ?_, sm.trans s3, s3 _ _ hD2⟩
              unfold JV
              rw [if_pos full]
              rfl
          · have e1 : PyData.eqv (.list ((lackL m ks).map fun (n : Nat) => PyData.int (n : Int))) (.list []) = false := by
              cases z : lackL m ks with
              | nil => exact absurd z full
              | cons a r => simp [PyData.eqv, PyData.eqvAll]
            rw [e1]
            refine iteF ⟨y12, ?_, sm, hD2⟩
            unfold JV
            rw [if_neg full]
            rfl
        rintro σ J3 ⟨y12, rfl, s3, hD3⟩
        have T11 := T10.same s3
        obtain ⟨⟨dx3, hp3⟩, hd3⟩ := T11.gat
        refine ⟨_, rfl, p, dx3, _, rfl, hp3, gat_no (by decide +kernel) (by decide +kernel), p, d, m, ks, rfl, T11.gat, by omega, fun q1 J4 nq1 s4 hq1 => ?_⟩
        have hD4 := s4 _ _ hD3
        refine ⟨_, rfl, .ref q1, .ref D, _, rfl, dL hq1, dL hD4, kL, _, rfl, ?_⟩
        have T12 := T11.same s4
        refine ⟨_, rfl, p, dx3, _, rfl, s4 _ _ hp3, gat_no (by decide +kernel) (by decide +kernel), p, d, m, ks, rfl, T12.gat, by omega, ok, fun J5 s5 => ?_⟩
        refine ⟨_, rfl, _, _, _, rfl, dp_j m ks, dp_j m ks, jD_lk ok (by omega), _, rfl, ?_⟩
        exact ⟨ks, _, _, _, _, _, _, _, rfl, T12.same s5⟩
      · rintro σ G5 ⟨ks, y6, y7, y8, y9, y10, y11, y12, rfl, T5⟩
        exact ⟨_, _, _, _, _, _, _, _, _, _, _, _, rfl, e2.trans T5.sm⟩
    · rintro σ H2 ⟨y1, y2, y3, y4, y5, y6, y7, y8, y9, y10, y11, y12, rfl, e2⟩
      exact q _
end
--SPLIT
theorem all_mk {l : PySem.W.OpenLaw} {w : World} {K : PySem.W.Frag} {h : Heap} {mg : Str → Option Value} {fa : Addr} (X : K.In h) (G : h.Ns mainGlobals mg) (hfa : mg "law" = some (.ref fa))
    {f0 f1 f2 f3 f4 f5 f6 f7 f8 f9 f10 f11 f12 f13 f14 f15 f16 : Addr}
    {x_NoSaying : Addr}
    {x_NoCall : Addr}
    {x_NoEnds : Addr}
    {x_NoName : Addr}
    {x_NoPiece : Addr}
    {x_NoFrame : Addr}
    {x_NoTelling : Addr}
    {x_NoWords : Addr}
    {x_NoPage : Addr}
    {x_FarError : Addr}
    {od0 an0 od1 an1 od2 an2 od3 an3 od4 an4 od5 an5 od6 an6 od7 an7 od8 an8 od9 an9 od10 an10 od11 an11 od12 an12 od13 an13 od14 an14 od15 an15 od16 an16 : Option Addr}
    {sl0 sl1 sl2 sl3 sl4 sl5 sl6 sl7 sl8 sl9 sl10 sl11 sl12 sl13 sl14 sl15 sl16 : Array (Option Value)}
    {oc0 kV0 dc0 pm0 ct0 cd0 oc1 kV1 dc1 pm1 ct1 cd1 oc2 kV2 dc2 pm2 ct2 cd2 oc3 kV3 dc3 pm3 ct3 cd3 oc4 kV4 dc4 pm4 ct4 cd4 oc5 kV5 dc5 pm5 ct5 cd5 oc6 kV6 dc6 pm6 ct6 cd6 oc7 kV7 dc7 pm7 ct7 cd7 oc8 kV8 dc8 pm8 ct8 cd8 oc9 kV9 dc9 pm9 ct9 cd9 oc10 kV10 dc10 pm10 ct10 cd10 oc11 kV11 dc11 pm11 ct11 cd11 oc12 kV12 dc12 pm12 ct12 cd12 oc13 kV13 dc13 pm13 ct13 cd13 oc14 kV14 dc14 pm14 ct14 cd14 oc15 kV15 dc15 pm15 ct15 cd15 oc16 kV16 dc16 pm16 ct16 cd16 : Value}
    {C_Gathering : Addr}
    (a0 : PySem.W.nsIn K mainGlobals "is_whole" = some (some (.ref f0))) (l0 : K.lookup f0 = some ⟨oc0, od0, .func (PySem.W.fnOf "is_whole" "is_whole" (defArgs s_is_whole) (defBody s_is_whole) (defScope s_is_whole) .none kV0 dc0 pm0 an0 cd0 ct0), sl0⟩) (c0 : PySem.W.codeIn K cd0 "is_whole" = true) (k0 : PySem.W.keepIn K (.ref f0) = true)
    (a1 : PySem.W.nsIn K mainGlobals "is_bits" = some (some (.ref f1))) (l1 : K.lookup f1 = some ⟨oc1, od1, .func (PySem.W.fnOf "is_bits" "is_bits" (defArgs s_is_bits) (defBody s_is_bits) (defScope s_is_bits) .none kV1 dc1 pm1 an1 cd1 ct1), sl1⟩) (c1 : PySem.W.codeIn K cd1 "is_bits" = true) (k1 : PySem.W.keepIn K (.ref f1) = true)
    (a2 : PySem.W.findIn K (.ref C_Gathering) "__init__" = some (some (.ref f2))) (i2 : PySem.W.isFn K (.ref f2) = true) (l2 : K.lookup f2 = some ⟨oc2, od2, .func (PySem.W.fnOf "__init__" "Gathering.__init__" (defArgs s_Gathering___init__) (defBody s_Gathering___init__) (defScope s_Gathering___init__) .none kV2 dc2 pm2 an2 cd2 ct2), sl2⟩) (c2 : PySem.W.codeIn K cd2 "Gathering.__init__" = true) (k2 : PySem.W.keepIn K (.ref f2) = true)
    (a3 : PySem.W.findIn K (.ref C_Gathering) "take" = some (some (.ref f3))) (i3 : PySem.W.isFn K (.ref f3) = true) (l3 : K.lookup f3 = some ⟨oc3, od3, .func (PySem.W.fnOf "take" "Gathering.take" (defArgs s_Gathering_take) (defBody s_Gathering_take) (defScope s_Gathering_take) .none kV3 dc3 pm3 an3 cd3 ct3), sl3⟩) (c3 : PySem.W.codeIn K cd3 "Gathering.take" = true) (k3 : PySem.W.keepIn K (.ref f3) = true)
    (a4 : PySem.W.findIn K (.ref C_Gathering) "lacking" = some (some (.ref f4))) (i4 : PySem.W.isFn K (.ref f4) = true) (l4 : K.lookup f4 = some ⟨oc4, od4, .func (PySem.W.fnOf "lacking" "Gathering.lacking" (defArgs s_Gathering_lacking) (defBody s_Gathering_lacking) (defScope s_Gathering_lacking) .none kV4 dc4 pm4 an4 cd4 ct4), sl4⟩) (c4 : PySem.W.codeIn K cd4 "Gathering.lacking" = true) (k4 : PySem.W.keepIn K (.ref f4) = true)
    (a5 : PySem.W.findIn K (.ref C_Gathering) "joined" = some (some (.ref f5))) (i5 : PySem.W.isFn K (.ref f5) = true) (l5 : K.lookup f5 = some ⟨oc5, od5, .func (PySem.W.fnOf "joined" "Gathering.joined" (defArgs s_Gathering_joined) (defBody s_Gathering_joined) (defScope s_Gathering_joined) .none kV5 dc5 pm5 an5 cd5 ct5), sl5⟩) (c5 : PySem.W.codeIn K cd5 "Gathering.joined" = true) (k5 : PySem.W.keepIn K (.ref f5) = true)
    (a6 : PySem.W.nsIn K mainGlobals "_law_bag" = some (some (.ref f6))) (l6 : K.lookup f6 = some ⟨oc6, od6, .func (PySem.W.fnOf "_law_bag" "_law_bag" (defArgs s_bag) (defBody s_bag) (defScope s_bag) .none kV6 dc6 pm6 an6 cd6 ct6), sl6⟩) (c6 : PySem.W.codeIn K cd6 "_law_bag" = true) (k6 : PySem.W.keepIn K (.ref f6) = true)
    (a7 : PySem.W.nsIn K mainGlobals "_law_take" = some (some (.ref f7))) (l7 : K.lookup f7 = some ⟨oc7, od7, .func (PySem.W.fnOf "_law_take" "_law_take" (defArgs s_take) (defBody s_take) (defScope s_take) .none kV7 dc7 pm7 an7 cd7 ct7), sl7⟩) (c7 : PySem.W.codeIn K cd7 "_law_take" = true) (k7 : PySem.W.keepIn K (.ref f7) = true)
    (a8 : PySem.W.nsIn K mainGlobals "_law_written" = some (some (.ref f8))) (l8 : K.lookup f8 = some ⟨oc8, od8, .func (PySem.W.fnOf "_law_written" "_law_written" (defArgs s_written) (defBody s_written) (defScope s_written) .none kV8 dc8 pm8 an8 cd8 ct8), sl8⟩) (c8 : PySem.W.codeIn K cd8 "_law_written" = true) (k8 : PySem.W.keepIn K (.ref f8) = true)
    (a9 : PySem.W.nsIn K mainGlobals "_law_any_bits" = some (some (.ref f9))) (l9 : K.lookup f9 = some ⟨oc9, od9, .func (PySem.W.fnOf "_law_any_bits" "_law_any_bits" (defArgs s_any_bits) (defBody s_any_bits) (defScope s_any_bits) .none kV9 dc9 pm9 an9 cd9 ct9), sl9⟩) (c9 : PySem.W.codeIn K cd9 "_law_any_bits" = true) (k9 : PySem.W.keepIn K (.ref f9) = true)
    (a10 : PySem.W.nsIn K mainGlobals "_law_classes" = some (some (.ref f10))) (l10 : K.lookup f10 = some ⟨oc10, od10, .func (PySem.W.fnOf "_law_classes" "_law_classes" (defArgs s_classes) (defBody s_classes) (defScope s_classes) .none kV10 dc10 pm10 an10 cd10 ct10), sl10⟩) (c10 : PySem.W.codeIn K cd10 "_law_classes" = true) (k10 : PySem.W.keepIn K (.ref f10) = true)
    (a11 : PySem.W.nsIn K mainGlobals "_law_like" = some (some (.ref f11))) (l11 : K.lookup f11 = some ⟨oc11, od11, .func (PySem.W.fnOf "_law_like" "_law_like" (defArgs s_like) (defBody s_like) (defScope s_like) .none kV11 dc11 pm11 an11 cd11 ct11), sl11⟩) (c11 : PySem.W.codeIn K cd11 "_law_like" = true) (k11 : PySem.W.keepIn K (.ref f11) = true)
    (a12 : PySem.W.nsIn K mainGlobals "_law_told" = some (some (.ref f12))) (l12 : K.lookup f12 = some ⟨oc12, od12, .func (PySem.W.fnOf "_law_told" "_law_told" (defArgs s_told) (defBody s_told) (defScope s_told) .none kV12 dc12 pm12 an12 cd12 ct12), sl12⟩) (c12 : PySem.W.codeIn K cd12 "_law_told" = true) (k12 : PySem.W.keepIn K (.ref f12) = true)
    (a13 : PySem.W.nsIn K mainGlobals "_law_any_number" = some (some (.ref f13))) (l13 : K.lookup f13 = some ⟨oc13, od13, .func (PySem.W.fnOf "_law_any_number" "_law_any_number" (defArgs s_any_number) (defBody s_any_number) (defScope s_any_number) .none kV13 dc13 pm13 an13 cd13 ct13), sl13⟩) (c13 : PySem.W.codeIn K cd13 "_law_any_number" = true) (k13 : PySem.W.keepIn K (.ref f13) = true)
    (a14 : PySem.W.nsIn K mainGlobals "_law_piece_bits" = some (some (.ref f14))) (l14 : K.lookup f14 = some ⟨oc14, od14, .func (PySem.W.fnOf "_law_piece_bits" "_law_piece_bits" (defArgs s_piece_bits) (defBody s_piece_bits) (defScope s_piece_bits) .none kV14 dc14 pm14 an14 cd14 ct14), sl14⟩) (c14 : PySem.W.codeIn K cd14 "_law_piece_bits" = true) (k14 : PySem.W.keepIn K (.ref f14) = true)
    (a15 : PySem.W.nsIn K mainGlobals "_law_is_piece" = some (some (.ref f15))) (l15 : K.lookup f15 = some ⟨oc15, od15, .func (PySem.W.fnOf "_law_is_piece" "_law_is_piece" (defArgs s_is_piece) (defBody s_is_piece) (defScope s_is_piece) .none kV15 dc15 pm15 an15 cd15 ct15), sl15⟩) (c15 : PySem.W.codeIn K cd15 "_law_is_piece" = true) (k15 : PySem.W.keepIn K (.ref f15) = true)
    (a16 : PySem.W.nsIn K mainGlobals "law" = some (some (.ref f16))) (l16 : K.lookup f16 = some ⟨oc16, od16, .func (PySem.W.fnOf "law" "law" (defArgs s_law) (defBody s_law) (defScope s_law) .none kV16 dc16 pm16 an16 cd16 ct16), sl16⟩) (c16 : PySem.W.codeIn K cd16 "law" = true) (k16 : PySem.W.keepIn K (.ref f16) = true)
    (aC_Gathering : PySem.W.nsIn K mainGlobals "Gathering" = some (some (.ref C_Gathering))) (pg_Gathering : PySem.W.plainGet K C_Gathering Str.empty = true) (hd_CGathering : PySem.W.hasDictIn K C_Gathering = true) (po_Gathering : PySem.W.plainOver K C_Gathering = true) (sa_Gathering : PySem.W.findIn K (.ref C_Gathering) "__setattr__" = some (some (.builtin "object.__setattr__"))) (mk_Gathering : PySem.W.makesIn K C_Gathering = true) (kc_Gathering : PySem.W.keepIn K (.ref C_Gathering) = true)
    (nf_Gathering_many : PySem.W.findIn K (.ref C_Gathering) "many" = some none)
    (nf_Gathering_pieces : PySem.W.findIn K (.ref C_Gathering) "pieces" = some none)
    (xa_FarError : PySem.W.nsIn K mainGlobals "FarError" = some (some (.ref x_FarError))) (xi_FarError : PySem.W.isClsIn K x_FarError = true) (xt_FarError : PySem.W.typeIn K (.ref x_FarError) = some (.type "type")) (xu_FarError : PySem.W.subIn K (.ref x_NoPiece) (.ref x_FarError) = some true)
    (xa_NoPage : PySem.W.nsIn K mainGlobals "NoPage" = some (some (.ref x_NoPage))) (xi_NoPage : PySem.W.isClsIn K x_NoPage = true) (xt_NoPage : PySem.W.typeIn K (.ref x_NoPage) = some (.type "type")) (xu_NoPage : PySem.W.subIn K (.ref x_NoPiece) (.ref x_NoPage) = some false)
    (xa_NoWords : PySem.W.nsIn K mainGlobals "NoWords" = some (some (.ref x_NoWords))) (xi_NoWords : PySem.W.isClsIn K x_NoWords = true) (xt_NoWords : PySem.W.typeIn K (.ref x_NoWords) = some (.type "type")) (xu_NoWords : PySem.W.subIn K (.ref x_NoPiece) (.ref x_NoWords) = some false)
    (xa_NoTelling : PySem.W.nsIn K mainGlobals "NoTelling" = some (some (.ref x_NoTelling))) (xi_NoTelling : PySem.W.isClsIn K x_NoTelling = true) (xt_NoTelling : PySem.W.typeIn K (.ref x_NoTelling) = some (.type "type")) (xu_NoTelling : PySem.W.subIn K (.ref x_NoPiece) (.ref x_NoTelling) = some false)
    (xa_NoFrame : PySem.W.nsIn K mainGlobals "NoFrame" = some (some (.ref x_NoFrame))) (xi_NoFrame : PySem.W.isClsIn K x_NoFrame = true) (xt_NoFrame : PySem.W.typeIn K (.ref x_NoFrame) = some (.type "type")) (xu_NoFrame : PySem.W.subIn K (.ref x_NoPiece) (.ref x_NoFrame) = some false)
    (xa_NoPiece : PySem.W.nsIn K mainGlobals "NoPiece" = some (some (.ref x_NoPiece))) (xi_NoPiece : PySem.W.isClsIn K x_NoPiece = true) (xt_NoPiece : PySem.W.typeIn K (.ref x_NoPiece) = some (.type "type")) (xu_NoPiece : PySem.W.subIn K (.ref x_NoPiece) (.ref x_NoPiece) = some true)
    (xa_NoName : PySem.W.nsIn K mainGlobals "NoName" = some (some (.ref x_NoName))) (xi_NoName : PySem.W.isClsIn K x_NoName = true) (xt_NoName : PySem.W.typeIn K (.ref x_NoName) = some (.type "type")) (xu_NoName : PySem.W.subIn K (.ref x_NoPiece) (.ref x_NoName) = some false)
    (xa_NoEnds : PySem.W.nsIn K mainGlobals "NoEnds" = some (some (.ref x_NoEnds))) (xi_NoEnds : PySem.W.isClsIn K x_NoEnds = true) (xt_NoEnds : PySem.W.typeIn K (.ref x_NoEnds) = some (.type "type")) (xu_NoEnds : PySem.W.subIn K (.ref x_NoPiece) (.ref x_NoEnds) = some false)
    (xa_NoCall : PySem.W.nsIn K mainGlobals "NoCall" = some (some (.ref x_NoCall))) (xi_NoCall : PySem.W.isClsIn K x_NoCall = true) (xt_NoCall : PySem.W.typeIn K (.ref x_NoCall) = some (.type "type")) (xu_NoCall : PySem.W.subIn K (.ref x_NoPiece) (.ref x_NoCall) = some false)
    (xa_NoSaying : PySem.W.nsIn K mainGlobals "NoSaying" = some (some (.ref x_NoSaying))) (xi_NoSaying : PySem.W.isClsIn K x_NoSaying = true) (xt_NoSaying : PySem.W.typeIn K (.ref x_NoSaying) = some (.type "type")) (xu_NoSaying : PySem.W.subIn K (.ref x_NoPiece) (.ref x_NoSaying) = some false)
    (xq_NoPiece : PySem.W.excIn K x_NoPiece veB "ValueError.__new__" = true) (xk_NoPiece : PySem.W.keepIn K (.ref x_NoPiece) = true) (xs_NoPiece : PySem.W.subIn K (.ref x_NoPiece) (.type "BaseException") = some true) (xs_FarError : PySem.W.subIn K (.ref x_FarError) (.type "BaseException") = some true) (xv_NoPiece : PySem.W.subIn K (.ref x_NoPiece) (.type "ValueError") = some true)
    (eg : PySem.W.findIn K (.ref x_NoPiece) "__getattribute__" = some (some (.builtin "BaseException.__getattribute__"))) (ek : PySem.W.findIn K (.ref x_NoPiece) "__getattr__" = some none) (ed : PySem.W.hasDictIn K x_NoPiece = true) (ea : PySem.W.findIn K (.ref x_NoPiece) "__class__" = some (some (.builtin "object.__class__"))) (en : PySem.W.specialIn K (.builtin "object.__class__") "__get__" = some (some (.builtin "getset_descriptor.__get__"))) (et : PySem.W.takesIn K (.builtin "object.__class__") = some true) (em : PySem.W.mroIn K x_NoPiece (.type "object") = some true)
    (z_ValueError : PySem.W.nsIn K mainGlobals "ValueError" = some none)
    (z_abs : PySem.W.nsIn K mainGlobals "abs" = some none)
    (z_bool : PySem.W.nsIn K mainGlobals "bool" = some none)
    (z_int : PySem.W.nsIn K mainGlobals "int" = some none)
    (z_isinstance : PySem.W.nsIn K mainGlobals "isinstance" = some none)
    (z_len : PySem.W.nsIn K mainGlobals "len" = some none)
    (z_max : PySem.W.nsIn K mainGlobals "max" = some none)
    (z_min : PySem.W.nsIn K mainGlobals "min" = some none)
    (z_range : PySem.W.nsIn K mainGlobals "range" = some none)
    (z_repr : PySem.W.nsIn K mainGlobals "repr" = some none)
    (z_str : PySem.W.nsIn K mainGlobals "str" = some none)
    : FpG.LawG l w K CX0 4 63 "_law_script" mg fa h := by
  have e := hfa.symm.trans (PySem.W.mg_of X G a16)
  cases e
  have F0 := fun_mk (st := s_is_whole) l0 c0 k0
  have b0 := F0.binds (ps := P_is_whole) fun _ _ _ _ _ _ us hl => match us, hl with | [_], _ => rfl
  have F1 := fun_mk (st := s_is_bits) l1 c1 k1
  have b1 := F1.binds (ps := P_is_bits) fun _ _ _ _ _ _ us hl => match us, hl with | [_], _ => rfl
  have F2 := fun_mk (st := s_Gathering___init__) l2 c2 k2
  have b2 := F2.binds (ps := P_Gathering___init__) fun _ _ _ _ _ _ us hl => match us, hl with | [_, _], _ => rfl
  have F3 := fun_mk (st := s_Gathering_take) l3 c3 k3
  have b3 := F3.binds (ps := P_Gathering_take) fun _ _ _ _ _ _ us hl => match us, hl with | [_, _, _], _ => rfl
  have F4 := fun_mk (st := s_Gathering_lacking) l4 c4 k4
  have b4 := F4.binds (ps := P_Gathering_lacking) fun _ _ _ _ _ _ us hl => match us, hl with | [_], _ => rfl
  have F5 := fun_mk (st := s_Gathering_joined) l5 c5 k5
  have b5 := F5.binds (ps := P_Gathering_joined) fun _ _ _ _ _ _ us hl => match us, hl with | [_], _ => rfl
  have F6 := fun_mk (st := s_bag) l6 c6 k6
  have b6 := F6.binds (ps := P_bag) fun _ _ _ _ _ _ us hl => match us, hl with | [_, _], _ => rfl
  have F7 := fun_mk (st := s_take) l7 c7 k7
  have b7 := F7.binds (ps := P_take) fun _ _ _ _ _ _ us hl => match us, hl with | [_, _], _ => rfl
  have F8 := fun_mk (st := s_written) l8 c8 k8
  have b8 := F8.binds (ps := P_written) fun _ _ _ _ _ _ us hl => match us, hl with | [_, _], _ => rfl
  have F9 := fun_mk (st := s_any_bits) l9 c9 k9
  have b9 := F9.binds (ps := P_any_bits) fun _ _ _ _ _ _ us hl => match us, hl with | [_, _], _ => rfl
  have F10 := fun_mk (st := s_classes) l10 c10 k10
  have b10 := F10.binds (ps := P_classes) fun _ _ _ _ _ _ us hl => match us, hl with | [_], _ => rfl
  have F11 := fun_mk (st := s_like) l11 c11 k11
  have b11 := F11.binds (ps := P_like) fun _ _ _ _ _ _ us hl => match us, hl with | [_, _], _ => rfl
  have F12 := fun_mk (st := s_told) l12 c12 k12
  have b12 := F12.binds (ps := P_told) fun _ _ _ _ _ _ us hl => match us, hl with | [_, _, _], _ => rfl
  have F13 := fun_mk (st := s_any_number) l13 c13 k13
  have b13 := F13.binds (ps := P_any_number) fun _ _ _ _ _ _ us hl => match us, hl with | [_, _], _ => rfl
  have F14 := fun_mk (st := s_piece_bits) l14 c14 k14
  have b14 := F14.binds (ps := P_piece_bits) fun _ _ _ _ _ _ us hl => match us, hl with | [_], _ => rfl
  have F15 := fun_mk (st := s_is_piece) l15 c15 k15
  have b15 := F15.binds (ps := P_is_piece) fun _ _ _ _ _ _ us hl => match us, hl with | [_, _, _], _ => rfl
  have F16 := fun_mk (st := s_law) l16 c16 k16
  exact ⟨_, [], spLaw K, ⟨(fun _ z => nomatch z), (fun _ z => nomatch z), fun _ z => nomatch z⟩, fun s v => .of_eq rfl, (fun H a ns hl _ hS => ⟨a, ns, rfl, hS, hl, fun _ => rfl⟩), fun base _ _ _ => ok_law (A := ⟨f0, _, f1, _, f2, _, f3, _, f4, _, f5, _, f6, _, f7, _, f8, _, f9, _, f10, _, f11, _, f12, _, f13, _, f14, _, f15, _, fa, _, C_Gathering, x_FarError, x_NoPage, x_NoWords, x_NoTelling, x_NoFrame, x_NoPiece, x_NoName, x_NoEnds, x_NoCall, x_NoSaying⟩) ⟨F0, b0, PySem.W.mg_of X G a0, F1, b1, PySem.W.mg_of X G a1, F2, b2, ⟨mk_Gathering, a2, i2, kc_Gathering⟩, F3, b3, ⟨a3, i3, k3⟩, F4, b4, ⟨a4, i4, k4⟩, F5, b5, ⟨a5, i5, k5⟩, F6, b6, PySem.W.mg_of X G a6, F7, b7, PySem.W.mg_of X G a7, F8, b8, PySem.W.mg_of X G a8, F9, b9, PySem.W.mg_of X G a9, F10, b10, PySem.W.mg_of X G a10, F11, b11, PySem.W.mg_of X G a11, F12, b12, PySem.W.mg_of X G a12, F13, b13, PySem.W.mg_of X G a13, F14, b14, PySem.W.mg_of X G a14, F15, b15, PySem.W.mg_of X G a15, F16, PySem.W.mg_of X G a16, ⟨pg_Gathering, hd_CGathering, po_Gathering, sa_Gathering⟩, PySem.W.mg_of X G aC_Gathering, nf_Gathering_many, nf_Gathering_pieces, PySem.W.mg_of X G xa_FarError, kit_own xu_NoPiece xi_FarError xt_FarError xu_FarError, PySem.W.mg_of X G xa_NoPage, kit_own xu_NoPiece xi_NoPage xt_NoPage xu_NoPage, PySem.W.mg_of X G xa_NoWords, kit_own xu_NoPiece xi_NoWords xt_NoWords xu_NoWords, PySem.W.mg_of X G xa_NoTelling, kit_own xu_NoPiece xi_NoTelling xt_NoTelling xu_NoTelling, PySem.W.mg_of X G xa_NoFrame, kit_own xu_NoPiece xi_NoFrame xt_NoFrame xu_NoFrame, PySem.W.mg_of X G xa_NoPiece, kit_own xu_NoPiece xi_NoPiece xt_NoPiece xu_NoPiece, PySem.W.mg_of X G xa_NoName, kit_own xu_NoPiece xi_NoName xt_NoName xu_NoName, PySem.W.mg_of X G xa_NoEnds, kit_own xu_NoPiece xi_NoEnds xt_NoEnds xu_NoEnds, PySem.W.mg_of X G xa_NoCall, kit_own xu_NoPiece xi_NoCall xt_NoCall xu_NoCall, PySem.W.mg_of X G xa_NoSaying, kit_own xu_NoPiece xi_NoSaying xt_NoSaying xu_NoSaying, xq_NoPiece, xk_NoPiece, xs_NoPiece, xt_NoPiece, ⟨eg, ek, xs_NoPiece, ed, ea, en, et, em⟩, kit_ve xv_NoPiece, exm_sub xs_FarError xi_FarError xt_FarError xu_FarError, PySem.W.mg_none_of X G z_ValueError, PySem.W.mg_none_of X G z_abs, PySem.W.mg_none_of X G z_bool, PySem.W.mg_none_of X G z_int, PySem.W.mg_none_of X G z_isinstance, PySem.W.mg_none_of X G z_len, PySem.W.mg_none_of X G z_max, PySem.W.mg_none_of X G z_min, PySem.W.mg_none_of X G z_range, PySem.W.mg_none_of X G z_repr, PySem.W.mg_none_of X G z_str⟩⟩
end K36
open PySem PySem.W PyProof.Rows
set_option maxHeartbeats 0 in
theorem PySem.Challenge.cw_farpage_k36_gathering_refused_holds : PySem.Challenge.rw_farpage_k36_gathering_refused.Holds := by
  w_on; o_law; k_head; (case hw => w_witness2)
  k_fill
  refine FpG.walk_G (l := PySem.Challenge.rw_farpage_k36_gathering_refused) (n := 63) (k := 4) (x := "_law_script") (CX := fun _ => L2.CX0) rfl (by decide) rfl ⟨rfl, by decide, by decide⟩ (fun w h Y => PySem.W.kIn_of Y) ?F (fun _ _ _ _ _ h => h)
  case F =>
    intro w mg fa h Y KX G hmg
    refine' K36.all_mk KX G hmg ?a0 ?l0 ?c0 ?k0 ?a1 ?l1 ?c1 ?k1 ?a2 ?i2 ?l2 ?c2 ?k2 ?a3 ?i3 ?l3 ?c3 ?k3 ?a4 ?i4 ?l4 ?c4 ?k4 ?a5 ?i5 ?l5 ?c5 ?k5 ?a6 ?l6 ?c6 ?k6 ?a7 ?l7 ?c7 ?k7 ?a8 ?l8 ?c8 ?k8 ?a9 ?l9 ?c9 ?k9 ?a10 ?l10 ?c10 ?k10 ?a11 ?l11 ?c11 ?k11 ?a12 ?l12 ?c12 ?k12 ?a13 ?l13 ?c13 ?k13 ?a14 ?l14 ?c14 ?k14 ?a15 ?l15 ?c15 ?k15 ?a16 ?l16 ?c16 ?k16 ?aC_Gathering ?pg_Gathering ?hd_CGathering ?po_Gathering ?sa_Gathering ?mk_Gathering ?kc_Gathering ?nf_Gathering_many ?nf_Gathering_pieces ?xa_FarError ?xi_FarError ?xt_FarError ?xu_FarError ?xa_NoPage ?xi_NoPage ?xt_NoPage ?xu_NoPage ?xa_NoWords ?xi_NoWords ?xt_NoWords ?xu_NoWords ?xa_NoTelling ?xi_NoTelling ?xt_NoTelling ?xu_NoTelling ?xa_NoFrame ?xi_NoFrame ?xt_NoFrame ?xu_NoFrame ?xa_NoPiece ?xi_NoPiece ?xt_NoPiece ?xu_NoPiece ?xa_NoName ?xi_NoName ?xt_NoName ?xu_NoName ?xa_NoEnds ?xi_NoEnds ?xt_NoEnds ?xu_NoEnds ?xa_NoCall ?xi_NoCall ?xt_NoCall ?xu_NoCall ?xa_NoSaying ?xi_NoSaying ?xt_NoSaying ?xu_NoSaying ?xq_NoPiece ?xk_NoPiece ?xs_NoPiece ?xs_FarError ?xv_NoPiece ?eg ?ek ?ed ?ea ?en ?et ?em ?z_ValueError ?z_abs ?z_bool ?z_int ?z_isinstance ?z_len ?z_max ?z_min ?z_range ?z_repr ?z_str
    (case aC_Gathering => k_is)
    (case xa_FarError => k_is)
    (case xa_NoPage => k_is)
    (case xa_NoWords => k_is)
    (case xa_NoTelling => k_is)
    (case xa_NoFrame => k_is)
    (case xa_NoPiece => k_is)
    (case xa_NoName => k_is)
    (case xa_NoEnds => k_is)
    (case xa_NoCall => k_is)
    (case xa_NoSaying => k_is)
    (case a0 => k_is)
    (case l0 => k_is)
    (case c0 => k_is)
    (case k0 => k_is)
    (case a1 => k_is)
    (case l1 => k_is)
    (case c1 => k_is)
    (case k1 => k_is)
    (case a2 => k_is)
    (case i2 => k_is)
    (case l2 => k_is)
    (case c2 => k_is)
    (case k2 => k_is)
    (case a3 => k_is)
    (case i3 => k_is)
    (case l3 => k_is)
    (case c3 => k_is)
    (case k3 => k_is)
    (case a4 => k_is)
    (case i4 => k_is)
    (case l4 => k_is)
    (case c4 => k_is)
    (case k4 => k_is)
    (case a5 => k_is)
    (case i5 => k_is)
    (case l5 => k_is)
    (case c5 => k_is)
    (case k5 => k_is)
    (case a6 => k_is)
    (case l6 => k_is)
    (case c6 => k_is)
    (case k6 => k_is)
    (case a7 => k_is)
    (case l7 => k_is)
    (case c7 => k_is)
    (case k7 => k_is)
    (case a8 => k_is)
    (case l8 => k_is)
    (case c8 => k_is)
    (case k8 => k_is)
    (case a9 => k_is)
    (case l9 => k_is)
    (case c9 => k_is)
    (case k9 => k_is)
    (case a10 => k_is)
    (case l10 => k_is)
    (case c10 => k_is)
    (case k10 => k_is)
    (case a11 => k_is)
    (case l11 => k_is)
    (case c11 => k_is)
    (case k11 => k_is)
    (case a12 => k_is)
    (case l12 => k_is)
    (case c12 => k_is)
    (case k12 => k_is)
    (case a13 => k_is)
    (case l13 => k_is)
    (case c13 => k_is)
    (case k13 => k_is)
    (case a14 => k_is)
    (case l14 => k_is)
    (case c14 => k_is)
    (case k14 => k_is)
    (case a15 => k_is)
    (case l15 => k_is)
    (case c15 => k_is)
    (case k15 => k_is)
    (case a16 => k_is)
    (case l16 => k_is)
    (case c16 => k_is)
    (case k16 => k_is)
    (case pg_Gathering => k_is)
    (case hd_CGathering => k_is)
    (case po_Gathering => k_is)
    (case sa_Gathering => k_is)
    (case mk_Gathering => k_is)
    (case kc_Gathering => k_is)
    (case nf_Gathering_many => k_is)
    (case nf_Gathering_pieces => k_is)
    (case xi_FarError => k_is)
    (case xt_FarError => k_is)
    (case xu_FarError => first | rfl | k_is)
    (case xi_NoPage => k_is)
    (case xt_NoPage => k_is)
    (case xu_NoPage => first | rfl | k_is)
    (case xi_NoWords => k_is)
    (case xt_NoWords => k_is)
    (case xu_NoWords => first | rfl | k_is)
    (case xi_NoTelling => k_is)
    (case xt_NoTelling => k_is)
    (case xu_NoTelling => first | rfl | k_is)
    (case xi_NoFrame => k_is)
    (case xt_NoFrame => k_is)
    (case xu_NoFrame => first | rfl | k_is)
    (case xi_NoPiece => k_is)
    (case xt_NoPiece => k_is)
    (case xu_NoPiece => first | rfl | k_is)
    (case xi_NoName => k_is)
    (case xt_NoName => k_is)
    (case xu_NoName => first | rfl | k_is)
    (case xi_NoEnds => k_is)
    (case xt_NoEnds => k_is)
    (case xu_NoEnds => first | rfl | k_is)
    (case xi_NoCall => k_is)
    (case xt_NoCall => k_is)
    (case xu_NoCall => first | rfl | k_is)
    (case xi_NoSaying => k_is)
    (case xt_NoSaying => k_is)
    (case xu_NoSaying => first | rfl | k_is)
    (case xq_NoPiece => k_exc)
    (case xk_NoPiece => k_is)
    (case xs_NoPiece => k_is)
    (case xs_FarError => k_is)
    (case xv_NoPiece => k_is)
    (case eg => k_is)
    (case ek => k_is)
    (case ed => k_is)
    (case ea => k_is)
    (case en => k_is)
    (case et => k_is)
    (case em => k_is)
    (case z_ValueError => k_is)
    (case z_abs => k_is)
    (case z_bool => k_is)
    (case z_int => k_is)
    (case z_isinstance => k_is)
    (case z_len => k_is)
    (case z_max => k_is)
    (case z_min => k_is)
    (case z_range => k_is)
    (case z_repr => k_is)
    (case z_str => k_is)
