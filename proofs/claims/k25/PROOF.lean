import PyProof.Rows.All
import Wide.All
import OpenK.AllK
import Wide.FinOn
import HandS.ForMost
import HandS.IsInst
import HandS.StrMore
import HandS.Codes
import HandS.Evl
import HandS.TupAny
import HandS.TupMul
import HandS.Walk
import PyProof.Rows.StrJoinRep
import HandS.Lambda
import HandS.EndTab
import HandS.Conv
import KE.SortKeyHeap
import HandS.WideBits
import HandS.More
import HandS.Deep
import PyProof.SeqIndex
import HandS.TryOnly
import HandS.WordsExc
import HandS.Style
import PySem.Challenge.RW_farpage_k25_whole_untouched_rows_read
set_option Elab.async false
set_option linter.all false
set_option maxRecDepth 100000
set_option maxHeartbeats 4000000
/-! Rules of our own over the hand layer: a sign times an int, list(text), ljust with a sign. -/
namespace Fp
open PySem L2 PyProof.Rows
/-- a text by its codes -/
def sOf (l : List Nat) : Str := ⟨l.toArray⟩
theorem sOf_list (l : List Nat) : (sOf l).cps.toList = l := by simp [sOf]
theorem sOf_len (l : List Nat) : (sOf l).length = l.length := by simp [sOf, Str.length]
theorem of_list {z : Str} {l : List Nat} (h : z.cps.toList = l) : z = sOf l := str_of_list (by rw [h, sOf_list])
theorem sOf_inj {l m : List Nat} (h : sOf l = sOf m) : l = m := by
  have := congrArg (fun z => z.cps.toList) h
  simpa [sOf] using this
theorem sOf_app (l m : List Nat) : sOf l ++ sOf m = sOf (l ++ m) := by
  apply of_list
  show ((sOf l) ++ (sOf m)).cps.toList = l ++ m
  rw [show ((sOf l) ++ (sOf m)).cps = (sOf l).cps ++ (sOf m).cps from rfl]
  simp [sOf]
section
variable {X : Cx}
theorem op_mul_str : OpR X (binaryOp .Mult) (fun x y H Q => ∃ c n, x = .str (sOf [c]) ∧ y = .int n ∧ (-100000 ≤ n ∧ n ≤ 100000) ∧ Q (.str (sOf (List.replicate n.toNat c))) H) := by
  intro pins s σ H x y v u Q I rx ry h
  obtain ⟨c, n, rfl, rfl, hz, q⟩ := h
  obtain ⟨t, rfl⟩ := rx
  obtain ⟨t', rfl⟩ := ry
  refine SB.mul (mulOk_of 1 100000 (by rw [sOf_len]; exact Nat.le_refl _) (by omega) (by omega) (by decide) (by decide)) fun t' k => ?_
  have e : Txt.mul (sOf [c]) n = sOf (List.replicate n.toNat c) := of_list (mul_one_list c n)
  rw [e]
  exact ⟨.str (sOf (List.replicate n.toNat c)), H, I.tok _, ⟨_, rfl⟩, q⟩
theorem padOk {i : Int} (h0 : 0 ≤ i) (h1 : i ≤ 100000) : PadOk i = true := padOk_of (by omega) (by omega)
theorem mt_ljustF : MtR X "str.ljust" (fun x xs H Q => ∃ (l : List Nat) (i : Int) (c : Nat), x = .str (sOf l) ∧ xs = [.int i, .str (sOf [c])] ∧ (0 ≤ i ∧ i ≤ 100000) ∧ Q (.str (sOf (l ++ List.replicate (i.toNat - l.length) c))) H) := by
  intro pins s σ H x xs v us Q I rx rs h
  obtain ⟨l, i, c, rfl, rfl, hz, q⟩ := h
  obtain ⟨t, rfl⟩ := rx
  obtain ⟨u, w', rfl, ⟨t', rfl⟩, ⟨t'', rfl⟩⟩ := vals2 rs
  refine ljust_fill (padOk hz.1 hz.2) (sOf_len _) fun t' k => ?_
  have e : Txt.ljustF (sOf l) i ((sOf [c]).cps.getD 0 0) = sOf (l ++ List.replicate (i.toNat - l.length) c) := of_list (by
    rw [ljustF_list, sOf_list, sOf_len]
    rfl)
  rw [e]
  exact ⟨.str (sOf (l ++ List.replicate (i.toNat - l.length) c)), H, I.tok _, ⟨_, rfl⟩, q⟩
theorem vals_signs {acc : List Value} {l : List Nat} (h1 : acc.length = l.length) (h2 : ∀ (j : Nat) v, acc[j]? = some v → ∃ c u, l[j]? = some c ∧ v = .str ⟨#[c]⟩ u) : Vals (l.map fun c => V.str (sOf [c])) acc := by
  induction l generalizing acc with
  | nil =>
    cases acc with
    | nil => exact .nil
    | cons a r => simp at h1
  | cons c r ih =>
    cases acc with
    | nil => simp at h1
    | cons a b =>
      obtain ⟨c', u, e, rfl⟩ := h2 0 a rfl
      have e2 : c' = c := by simpa using e.symm
      subst e2
      exact .cons ⟨u, rfl⟩ (ih (by simpa using h1) fun j v hj => h2 (j + 1) v hj)
theorem call_list_str (hc : X.calm = true) : CallR X (.type "list") (fun xs H Q => ∃ z : List Nat, xs = [.str (sOf z)] ∧ z.length ≤ 100000 ∧ ∀ l, H l = none → Q (.ref l) (upd H l (.lst (z.map fun c => V.str (sOf [c]))))) := by
  intro pins s σ H xs us Q I r h
  obtain ⟨z, rfl, hz, q⟩ := h
  obtain ⟨u, rfl, t, rfl⟩ := vals1 r
  have hl : z.length ≤ sizeLine := Nat.le_trans hz (by decide)
  refine PySem.call_list_str (I.ok.hd hc) (sOf z) t (hn := by show (sOf z).length ≤ sizeLine; rw [sOf_len]; exact hl) fun h' tk acc' c' hk hS' hacc => ?_
  have r' : Vals (z.map fun c => V.str (sOf [c])) acc'.toList := vals_signs (by have := hacc.1; simpa [sOf] using this) fun j v hj => by
    obtain ⟨c, u, e, rfl⟩ := hacc.2 j v (by simpa using hj)
    exact ⟨c, u, by simpa [sOf] using e, rfl⟩
  exact ⟨.ref s.heap.objs.size, _, I.laid (t' := tk) hk (Nat.le_refl _) (show ObjOk X.prog X.w _ h' _ (.lst _) from ⟨by rw [List.length_map]; exact hl, acc'.toList, c', r', by simpa using hS'⟩), rfl, q _ (I.hok.fresh (Nat.le_refl _))⟩
end
/-! ### heaps -/
theorem same_new {H : Hp} {p : Addr} {o : HO} (h : H p = none) : Same H (upd H p o) := fun b x e => by
  rw [upd_ne (ne_of_none e h)]
  exact e
/-- what is new may change -/
theorem Same.mut {H H' : Hp} {p : Addr} {o : HO} (e : Same H H') (h : H p = none) : Same H (upd H' p o) := fun b x hb => by
  rw [upd_ne (ne_of_none hb h)]
  exact e b x hb
/-- a bag of the laws' draws -/
def BagAt (H : Hp) (b : Addr) : Prop := ∃ g s : Int, H b = some (.lst [.int g, .int s]) ∧ 0 ≤ g ∧ 0 ≤ s ∧ s < 1000000000000
/-- the bag has turned, what else stood stands -/
def Bx (b : Addr) (H H' : Hp) : Prop := BagAt H' b ∧ ∀ a o, a ≠ b → H a = some o → H' a = some o
theorem Bx.refl {b : Addr} {H : Hp} (h : BagAt H b) : Bx b H H := ⟨h, fun _ _ _ e => e⟩
theorem Bx.trans {b : Addr} {H H1 H2 : Hp} (x : Bx b H H1) (y : Bx b H1 H2) : Bx b H H2 := ⟨y.1, fun a o n e => y.2 a o n (x.2 a o n e)⟩
theorem Bx.drawn {b : Addr} {H : Hp} {g s : Int} (g0 : 0 ≤ g) (s0 : 0 ≤ s) (s1 : s < 1000000000000) : Bx b H (upd H b (.lst [.int g, .int s])) := ⟨⟨g, s, upd_same, g0, s0, s1⟩, fun a o n e => by
  rw [upd_ne n]
  exact e⟩
theorem Bx.same {b : Addr} {H H1 H2 : Hp} (x : Bx b H H1) (y : Same H1 H2) : Bx b H H2 := by
  obtain ⟨⟨g, s, h, r⟩, k⟩ := x
  exact ⟨⟨g, s, y _ _ h, r⟩, fun a o n e => y _ _ (k a o n e)⟩
/-- from before the bag was made -/
theorem Bx.back {b : Addr} {H0 H H' : Hp} (x : Bx b H H') (y : Same H0 H) (n : H0 b = none) : Same H0 H' := fun a o e => x.2 a o (ne_of_none e n) (y a o e)
theorem Bx.mut {b p : Addr} {H H' : Hp} {o : HO} (x : Bx b H H') (hp : H p = none) (n : p ≠ b) : Bx b H (upd H' p o) := by
  obtain ⟨⟨g, s, h, r⟩, k⟩ := x
  refine ⟨⟨g, s, by rw [upd_ne n.symm]; exact h, r⟩, fun a u m e => ?_⟩
  rw [upd_ne (ne_of_none e hp)]
  exact k a u m e
theorem Bx.free {b p : Addr} {H H' : Hp} (x : Bx b H H') (h : H' p = none) : H p = none := by
  have n : p ≠ b := by
    obtain ⟨g, s, e, _⟩ := x.1
    exact (ne_of_none e h).symm
  cases q : H p with
  | none => rfl
  | some o =>
    rw [x.2 p o n q] at h
    cases h
theorem BagAt.new {H : Hp} {p : Addr} {g s : Int} (g0 : 0 ≤ g) (s0 : 0 ≤ s) (s1 : s < 1000000000000) : BagAt (upd H p (.lst [.int g, .int s])) p := ⟨g, s, upd_same, g0, s0, s1⟩
theorem BagAt.ne {H : Hp} {b p : Addr} (h : BagAt H b) (n : H p = none) : p ≠ b := by
  obtain ⟨g, s, e, _⟩ := h
  exact (ne_of_none e n).symm
/-- a list's own address is no bag's where its items are texts -/
def cells (l : List Nat) : List V := l.map fun c => V.str (sOf [c])
theorem cells_len (l : List Nat) : (cells l).length = l.length := List.length_map ..
theorem cells_set (l : List Nat) (j c : Nat) : (cells l).set j (.str (sOf [c])) = cells (l.set j c) := by
  unfold cells
  rw [List.map_set]
theorem cells_app (l : List Nat) (c : Nat) : cells l ++ [.str (sOf [c])] = cells (l ++ [c]) := by
  unfold cells
  rw [List.map_append]
  rfl
/-- the cells of rows -/
def Cell (c : Nat) : Prop := c = 46 ∨ c = 35
def Row (l : List Nat) : Prop := ∀ c ∈ l, Cell c
theorem Row.set {l : List Nat} {j c : Nat} (h : Row l) (hc : Cell c) : Row (l.set j c) := fun x hx => by
  rcases List.mem_or_eq_of_mem_set hx with e | e
  · exact h x e
  · rw [e]
    exact hc
theorem Row.app {l : List Nat} {c : Nat} (h : Row l) (hc : Cell c) : Row (l ++ [c]) := fun x hx => by
  rcases List.mem_append.mp hx with e | e
  · exact h x e
  · rw [List.mem_singleton.mp e]
    exact hc
theorem Row.rep {n c : Nat} (hc : Cell c) : Row (List.replicate n c) := fun x hx => by
  rw [(List.mem_replicate.mp hx).2]
  exact hc
theorem Row.nil : Row [] := fun _ h => nomatch h
def cellN (i : Int) : Nat := if i = 0 then 46 else 35
theorem cellN_cell (i : Int) : Cell (cellN i) := by
  unfold cellN
  split
  · exact .inl rfl
  · exact .inr rfl
theorem cell_at {i : Int} (h0 : 0 ≤ i) (h1 : i < 2) : atI (Str.ofString ".#").cps.toList i = some (cellN i) := by
  have : i = 0 ∨ i = 1 := by omega
  rcases this with rfl | rfl <;> rfl
theorem two_len : (Str.ofString ".#").length ≤ sizeLine := by decide
theorem sz {n : Nat} (h : n ≤ 100000) : n ≤ sizeLine := Nat.le_trans h (by decide)
theorem szl {n : Nat} (h : n < 100000) : n < sizeLine := Nat.lt_of_lt_of_le h (by decide)
theorem sIx_nat' (n d a : Nat) : HT.sIx n d (some (a : Int)) = min a n := HT.sIx_nat n d a
theorem cutS_nat (l : List Nat) (a b : Nat) (ha : a ≤ l.length) (hb : b ≤ l.length) : cutS (sOf l) (some (a : Int)) (some (b : Int)) = sOf ((l.drop a).take (b - a)) := by
  unfold cutS
  rw [HT.sIx_nat, HT.sIx_nat, sOf_len, sOf_list, Nat.min_eq_left ha, Nat.min_eq_left hb]
  rfl
theorem take_more {α : Type} (l : List α) (i : Nat) (x : α) (h : l[i]? = some x) : l.take (i + 1) = l.take i ++ [x] := by
  rw [List.take_add_one, h]
  rfl
theorem range_more {α : Type} (f : Nat → α) (i : Nat) : (List.range (i + 1)).map f = (List.range i).map f ++ [f i] := by
  rw [List.range_succ, List.map_append]
  rfl
theorem join_cells : ∀ l : List Nat, Txt.join (Str.ofString "") (l.map fun c => sOf [c]) = sOf l := by
  intro l
  show Builtin.Str.glued (Str.ofString "") (l.map fun c => sOf [c]) = sOf l
  rw [StrLaws.glued_eq_join]
  induction l with
  | nil => rfl
  | cons c r ih =>
    cases r with
    | nil => rfl
    | cons d r =>
      show sOf [c] ++ Str.ofString "" ++ Str.join (Str.ofString "") (List.map (fun c => sOf [c]) (d :: r)) = sOf (c :: d :: r)
      rw [ih, show (Str.ofString "") = sOf [] from rfl, sOf_app, sOf_app]
      rfl
theorem cells_strs (l : List Nat) : cells l = (l.map fun c => sOf [c]).map V.str := by
  rw [List.map_map]
  rfl
theorem ones_sum (l : List Nat) : ((l.map fun c => sOf [c]).map (·.length)).sum = l.length := by
  induction l with
  | nil => rfl
  | cons c r ih =>
    rw [List.map_cons, List.map_cons, List.sum_cons, ih, sOf_len, List.length_cons]
    show 1 + r.length = r.length + 1
    omega
theorem join_size {l : List Nat} (h : l.length ≤ 100000) : ((l.map fun c => sOf [c]).map (·.length)).sum + (l.map fun c => sOf [c]).length * (Str.ofString "").length ≤ 16777216 := by
  rw [ones_sum, show (Str.ofString "").length = 0 from rfl]
  omega
theorem rep_one (n : Nat) (c : Nat) : (List.replicate n [V.str (sOf [c])]).flatten = cells (List.replicate n c) := by
  induction n with
  | zero => rfl
  | succ k ih =>
    rw [List.replicate_succ, List.flatten_cons, ih, List.replicate_succ]
    rfl

/-! ### lists and tuples of texts -/
def sV (l : List Nat) : V := .str (sOf l)
def sD (l : List Nat) : PyData := .str (sOf l)
theorem dp_rows {K : PySem.W.Frag} {H : Hp} : ∀ rows : List (List Nat), DpAll K H (rows.map sV) (rows.map sD)
  | [] => .nil
  | r :: rs => .cons (.str _) (dp_rows rs)
def Codes (l : List Nat) : Prop := ∀ c ∈ l, c < 128
theorem strOk_of {l : List Nat} (h : Codes l) : PyData.strOk (sOf l) = true := by
  unfold PyData.strOk sOf
  rw [Array.all_eq_true']
  intro c hc
  have h2 := h c (by simpa using hc)
  exact decide_eq_true (by omega)
theorem lay_rows : ∀ {rows : List (List Nat)}, (∀ r ∈ rows, Codes r) → PyData.canLayAll0 (rows.map sD) = true
  | [], _ => by simp [PyData.canLayAll0]
  | r :: rs, h => by
    have h1 : PyData.canLay0 (sD r) = true := by
      show PyData.canLay0 (.str (sOf r)) = true
      simp only [PyData.canLay0]
      exact strOk_of (h r (List.mem_cons_self ..))
    have h2 := lay_rows (rows := rs) fun x hx => h x (List.mem_cons_of_mem _ hx)
    simp only [List.map_cons, PyData.canLayAll0, h1, h2, Bool.and_true]
theorem depth_rows : ∀ rows : List (List Nat), PyData.depthAll (rows.map sD) = 0
  | [] => by simp [PyData.depthAll]
  | r :: rs => by
    have h := depth_rows rs
    simp only [List.map_cons, PyData.depthAll, h, sD, PyData.depth]
    rfl
theorem shaped_tup {rows : List (List Nat)} (h : ∀ r ∈ rows, Codes r) : SeqAt.shaped (.tuple (rows.map sD)) = true := by
  show (PyData.canLay0 (.tuple (rows.map sD)) && decide (PyData.depth (.tuple (rows.map sD)) ≤ 64)) = true
  rw [Bool.and_eq_true]
  refine ⟨by simp only [PyData.canLay0]; exact lay_rows h, decide_eq_true ?_⟩
  simp only [PyData.depth, depth_rows]
  omega
theorem shaped_lst {rows : List (List Nat)} (h : ∀ r ∈ rows, Codes r) : SeqAt.shaped (.list (rows.map sD)) = true := by
  show (PyData.canLay0 (.list (rows.map sD)) && decide (PyData.depth (.list (rows.map sD)) ≤ 64)) = true
  rw [Bool.and_eq_true]
  refine ⟨by simp only [PyData.canLay0]; exact lay_rows h, decide_eq_true ?_⟩
  simp only [PyData.depth, depth_rows]
  omega
theorem eqv_tup {rows : List (List Nat)} (h : ∀ r ∈ rows, Codes r) : PyData.eqv (.tuple (rows.map sD)) (.tuple (rows.map sD)) = true := SeqAt.eqv_refl _ (by simp only [PyData.canLay0]; exact lay_rows h)
theorem eqv_lst {rows : List (List Nat)} (h : ∀ r ∈ rows, Codes r) : PyData.eqv (.list (rows.map sD)) (.list (rows.map sD)) = true := SeqAt.eqv_refl _ (by simp only [PyData.canLay0]; exact lay_rows h)
theorem Row.codes {l : List Nat} (h : Row l) : Codes l := fun c hc => by
  rcases h c hc with e | e <;> rw [e] <;> decide
theorem same_t {K : PySem.W.Frag} {H H' : Hp} {a : Addr} {xs : List V} (e : Same H H') (h : SqT K H a xs) : SqT K H' a xs := Evl.ex_t e h
theorem cut1 (xs : List V) : cutV xs (some 1) none = xs.drop 1 := by
  unfold cutV
  rw [show HT.sIx xs.length 0 (some 1) = min 1 xs.length from HT.sIx_nat xs.length 0 1, HT.sIx_none]
  cases xs with
  | nil => rfl
  | cons x r =>
    rw [show min 1 (x :: r).length = 1 by
      rw [List.length_cons]
      omega]
    show (List.take ((x :: r).length - 1) r) = r
    rw [List.length_cons, Nat.add_sub_cancel]
    exact List.take_length

/-! ### tuples of any kind, texts times an int -/
section
variable {X : Cx}
theorem cutV_whole {xs : List V} {lo hi : Option Int} (h : HT.sIx xs.length 0 lo = 0 ∧ HT.sIx xs.length xs.length hi = xs.length) : cutV xs lo hi = xs := by
  unfold cutV
  rw [h.1, h.2]
  show (xs.drop 0).take (xs.length - 0) = xs
  rw [List.drop_zero, Nat.sub_zero, List.take_length]
theorem sl_tupW : SlR X (fun x lo hi H Q => ∃ a xs, x = .ref a ∧ H a = some (.tup xs) ∧ ∀ q H', Same H H' → H' q = some (.tup (cutV xs lo hi)) → Q (.ref q) H') := by
  intro pins s σ H x v vl vu lo hi sl Q I rx hs pl pu h
  obtain ⟨a, xs, rfl, hx, q⟩ := h
  refine sl_tupA pins s σ H _ v vl vu lo hi sl Q I rx hs pl pu ⟨a, xs, rfl, .inl (.inl hx), fun e => ?_, fun e p hp => ?_⟩
  · exact q a H (Same.refl H) (by rw [cutV_whole e]; exact hx)
  · exact q p _ (same_new hp) upd_same
theorem op_catW : OpR X (binaryOp .Add) (fun x y H Q => ∃ a b xs ys, x = .ref a ∧ y = .ref b ∧ H a = some (.tup xs) ∧ H b = some (.tup ys) ∧ xs.length + ys.length ≤ 100000 ∧ ∀ q H', Same H H' → H' q = some (.tup (xs ++ ys)) → Q (.ref q) H') := by
  intro pins s σ H x y v u Q I rx ry h
  obtain ⟨a, b, xs, ys, rfl, rfl, ha, hb, hz, q⟩ := h
  refine op_catA pins s σ H _ _ v u Q I rx ry ⟨a, b, xs, ys, rfl, rfl, .inl (.inl ha), .inl (.inl hb), sz hz, fun e => ?_, fun _ e => ?_, fun _ _ p hp => ?_⟩
  · subst e
    exact q b H (Same.refl H) hb
  · subst e
    exact q a H (Same.refl H) (by rw [List.append_nil]; exact ha)
  · exact q p _ (same_new hp) upd_same
theorem op_mul_txt : OpR X (binaryOp .Mult) (fun x y H Q => ∃ (z : Str) (n : Int), x = .str z ∧ y = .int n ∧ (0 ≤ n ∧ n ≤ 1000 ∧ z.length ≤ 1000) ∧ ∀ m : Str, (m.length : Int) = (z.length : Int) * n → Q (.str m) H) := by
  intro pins s σ H x y v u Q I rx ry h
  obtain ⟨z, n, rfl, rfl, hz, q⟩ := h
  obtain ⟨t, rfl⟩ := rx
  obtain ⟨t', rfl⟩ := ry
  refine SB.mul (mulOk_of 1000 1000 hz.2.2 (by omega) (by omega) (by decide) (by decide)) fun t' k => ?_
  have e := len_mul z n
  rw [if_neg (by simp; omega)] at e
  exact ⟨.str (Txt.mul z n), H, I.tok _, ⟨_, rfl⟩, q _ e⟩
end
theorem cutV_mem {xs : List V} {lo hi : Option Int} {v : V} (h : v ∈ cutV xs lo hi) : v ∈ xs := by
  unfold cutV at h
  exact List.mem_of_mem_drop (List.mem_of_mem_take h)
theorem cutV_len (xs : List V) (lo hi : Option Int) : (cutV xs lo hi).length ≤ xs.length := by
  unfold cutV
  rw [List.length_take, List.length_drop]
  omega
/-! ### things of the laws -/
def Flat (v : V) : Prop := v = .non ∨ (∃ x, v = .bl x) ∨ (∃ i, v = .int i) ∨ ∃ z : Str, v = .str z ∧ z.length ≤ 100000
def It (b : Addr) (H : Hp) (v : V) : Prop := Flat v ∨ (∃ a xs, v = .ref a ∧ a ≠ b ∧ H a = some (.lst xs)) ∨ ∃ a xs, v = .ref a ∧ H a = some (.tup xs)
def Tg (b : Addr) (H : Hp) (v : V) : Prop := Flat v ∨ (∃ a xs, v = .ref a ∧ a ≠ b ∧ H a = some (.lst xs)) ∨ ∃ a xs, v = .ref a ∧ H a = some (.tup xs) ∧ xs.length ≤ 1000 ∧ ∀ u ∈ xs, It b H u
theorem BagAt.tup {H : Hp} {b a : Addr} {xs : List V} (h : BagAt H b) (e : H a = some (.tup xs)) : a ≠ b := fun z => by
  obtain ⟨g, s, e2, _⟩ := h
  rw [z, e2] at e
  cases e
theorem It.bx {b : Addr} {H H' : Hp} {v : V} (h : It b H v) (hb : BagAt H b) (x : Bx b H H') : It b H' v := by
  rcases h with h | ⟨a, xs, rfl, n, e⟩ | ⟨a, xs, rfl, e⟩
  · exact .inl h
  · exact .inr (.inl ⟨a, xs, rfl, n, x.2 _ _ n e⟩)
  · exact .inr (.inr ⟨a, xs, rfl, x.2 _ _ (hb.tup e) e⟩)
theorem Tg.bx {b : Addr} {H H' : Hp} {v : V} (h : Tg b H v) (hb : BagAt H b) (x : Bx b H H') : Tg b H' v := by
  rcases h with h | ⟨a, xs, rfl, n, e⟩ | ⟨a, xs, rfl, e, l, k⟩
  · exact .inl h
  · exact .inr (.inl ⟨a, xs, rfl, n, x.2 _ _ n e⟩)
  · exact .inr (.inr ⟨a, xs, rfl, x.2 _ _ (hb.tup e) e, l, fun u hu => (k u hu).bx hb x⟩)
theorem Tg.it {b : Addr} {H : Hp} {v : V} (h : Tg b H v) : It b H v := by
  rcases h with h | h | ⟨a, xs, rfl, e, l, k⟩
  · exact .inl h
  · exact .inr (.inl h)
  · exact .inr (.inr ⟨a, xs, rfl, e⟩)
theorem Tg.str {b : Addr} {H : Hp} {z : Str} (h : z.length ≤ 100000) : Tg b H (.str z) := .inl (.inr (.inr (.inr ⟨z, rfl, h⟩)))
theorem It.str {b : Addr} {H : Hp} {z : Str} (h : z.length ≤ 100000) : It b H (.str z) := .inl (.inr (.inr (.inr ⟨z, rfl, h⟩)))
theorem str_sOf (z : Str) : z = sOf z.cps.toList := of_list rfl

/-! ### rules whose new objects stand in an opaque heap -/
section
variable {X : Cx} {es : List Expr} {t : TA} {pos : Pos}
theorem pe_weaken {e : Expr} {te tf : TE} (h : PE X e te) (k : ∀ σ H Q, tf σ H Q → te σ H Q) : PE X e tf := ⟨fun pins s σ H Q I q => h.run pins s σ H Q I (k σ H Q q)⟩
def tLstW (t : TA) : TE := fun σ H Q => t σ H fun xs H1 => xs.length ≤ 100000 ∧ ∀ p H2, H1 p = none → Same H1 H2 → H2 p = some (.lst xs) → Q (.ref p) H2
def tTupW (t : TA) : TE := fun σ H Q => t σ H fun xs H1 => xs.length ≤ 100000 ∧ ∀ p H2, H1 p = none → Same H1 H2 → H2 p = some (.tup xs) → Q (.ref p) H2
end
def rNewW (H : Hp) (o : HO) (Q : VK) : Prop := ∀ p H2, H p = none → Same H H2 → H2 p = some o → Q (.ref p) H2
theorem rNewW.go {H : Hp} {o : HO} {Q : VK} (q : rNewW H o Q) : ∀ p, H p = none → Q (.ref p) (upd H p o) := fun p hp => q p _ hp (same_new hp) upd_same
section
variable {X : Cx}
theorem op_catLW : OpR X (binaryOp .Add) (fun x y H Q => ∃ a b xs ys, x = .ref a ∧ y = .ref b ∧ H a = some (.lst xs) ∧ H b = some (.lst ys) ∧ xs.length + ys.length ≤ 100000 ∧ rNewW H (.lst (xs ++ ys)) Q) := by
  intro pins s σ H x y v u Q I rx ry h
  obtain ⟨a, b, xs, ys, rfl, rfl, ha, hb, hz, q⟩ := h
  exact op_cat pins s σ H _ _ v u Q I rx ry ⟨a, b, xs, ys, rfl, rfl, ha, hb, sz hz, q.go⟩
theorem op_repTW : OpR X (binaryOp .Mult) (fun x y H Q => ∃ l k xs, x = .ref l ∧ y = .int k ∧ H l = some (.tup xs) ∧ xs ≠ [] ∧ 2 ≤ k ∧ k ≤ 1000 ∧ xs.length ≤ 1000 ∧ rNewW H (.tup (List.replicate k.toNat xs).flatten) Q) := by
  intro pins s σ H x y v u Q I rx ry h
  obtain ⟨l, k, xs, rfl, rfl, hl, h1, h2, h3, h4, q⟩ := h
  exact op_repT pins s σ H _ _ v u Q I rx ry ⟨l, k, xs, rfl, rfl, .inl (.inl hl), h1, h2, h3, h4, q.go⟩
theorem call_list_ofW : CallR X (.type "list") (fun xs H Q => ∃ p ys, xs = [.ref p] ∧ (H p = some (.lst ys) ∨ H p = some (.tup ys)) ∧ rNewW H (.lst ys) Q) := by
  intro pins s σ H xs us Q I r h
  obtain ⟨p, ys, rfl, hp, q⟩ := h
  exact call_list_of pins s σ H _ us Q I r ⟨p, ys, rfl, hp.elim (fun h => .inl (SqL.of h)) (fun h => .inr (.inl (.inl h))), q.go⟩
theorem call_list_strW (hc : X.calm = true) : CallR X (.type "list") (fun xs H Q => ∃ z : Str, xs = [.str z] ∧ z.length ≤ 100000 ∧ rNewW H (.lst (cells z.cps.toList)) Q) := by
  intro pins s σ H xs us Q I r h
  obtain ⟨z, rfl, hz, q⟩ := h
  refine call_list_str hc pins s σ H _ us Q I r ⟨z.cps.toList, by rw [← str_sOf], ?_, q.go⟩
  rw [Array.length_toList]
  exact hz
end
section
variable {X : Cx} {es : List Expr} {t : TA} {pos : Pos}
theorem pe_tupW {x1} (h : PA X es t) : PE X (.Tuple es x1 pos) (tTupW t) := by
  refine ⟨fun pins s σ H Q I hq => ?_⟩
  refine wpAny_Tuple_spliced (thn (h.run pos pins s σ H _ I hq) fun us s1 ⟨xs, H1, I1, r, z, q⟩ => ⟨by rw [← r.length]; exact sz z, ?_⟩)
  have hf : H1 s1.heap.objs.size = none := I1.hok.fresh (Nat.le_refl _)
  refine ⟨.ref s1.heap.objs.size, upd H1 s1.heap.objs.size (.tup xs), I1.laid (t' := s1.toks) (fun b u e => Heap.get?_push_of_some _ e) (Nat.le_refl _) ?_, rfl, q _ _ hf (same_new hf) upd_same⟩
  exact ⟨sz z, us, r, ⟨_, Heap.get?_push_size _ rfl, rfl, _, rfl⟩⟩
theorem pe_lstW (h : PA X es t) : PE X (.List es pos) (tLstW t) := by
  refine ⟨fun pins s σ H Q I hq => ?_⟩
  refine wpAny_List_spliced (thn (h.run pos pins s σ H _ I hq) fun us s1 ⟨xs, H1, I1, r, z, q⟩ => ⟨by rw [← r.length]; exact sz z, ?_⟩)
  have hf : H1 s1.heap.objs.size = none := I1.hok.fresh (Nat.le_refl _)
  refine ⟨.ref s1.heap.objs.size, upd H1 s1.heap.objs.size (.lst xs), I1.laid (t' := s1.toks) (fun b u e => Heap.get?_push_of_some _ e) (Nat.le_refl _) ?_, rfl, q _ _ hf (same_new hf) upd_same⟩
  exact ⟨sz z, us, 0, r, Heap.get?_push_size _ rfl⟩
end
end Fp

set_option Elab.async false
set_option linter.all false
set_option maxRecDepth 100000
set_option maxHeartbeats 4000000
/-! sorted(range(n), key=lambda i: xs[i]) over the hand layer. -/
namespace Fp
open PySem PySem.W PySem.Spec PyProof.Rows
section
variable {prog : Program} {w : World} {A : Around} {E : Value → Shared → Prop} {s : Shared}
/-- the key's call: (lambda i: xs[i])(i) -/
theorem key_turn {f c' a cL : Addr} {qual : Str} {params : Arguments} {scope : Scope} {clos : List (Str × Addr)} {pm ctv : Value} {xL xP : Str} {p1 p2 p3 : Pos} {h : Heap} {tk : Nat} {its : Array Value} {i : Int} {t : Tok} {x : Int} {tx : Tok}
    (hroom : A.depth < recursionLimit) (hf : h.get? f = some (kla_obj "<lambda>" qual params (.Subscript (.Name xL p1) (.Name xP p2) p3) scope clos pm c' ctv))
    (hkind : scope.kind = .function) (hco : scope.isCoroutine = false) (hgen : scope.isGenerator = false) (hcell : ∀ y ∈ scope.names, y.2 ≠ .cell) (hP : scope.names.lookup xP = some .local) (hL : scope.names.lookup xL = some .free)
    (hcl : clos.lookup xL = some cL) (hic : h.IsCell cL (some (.ref a))) (hcr : ∃ (oc : Obj) (vs : Array Value) (t : Tok), h.get? c' = some oc ∧ oc.data = .fields vs ∧ vs[1]? = some (.str qual t))
    (hbind : ∀ v, bindArgs (kla_fn "<lambda>" qual params (.Subscript (.Name xL p1) (.Name xP p2) p3) scope clos pm (.ref c') ctv) ⟨[v], []⟩ = pure [(xP, v)])
    (hlim : h.NoLimit) (hl : h.IsList a its) (h0 : 0 ≤ i) (hi : i < 2 ^ 63) (hx : its[i.toNat]? = some (.int x tx))
    (hd1 : (xL == ("__debug__" : Str)) = false) (hd2 : (xP == ("__debug__" : Str)) = false) (hd3 : (xL == ("__classdict__" : Str)) = false) :
    wpAny (model prog w) A (call (.ref f) [.int i t]) (KeyPure (.int x) { s with heap := h, toks := tk }) E { s with heap := h, toks := tk } := by
  obtain ⟨oc, vs, tq, hoc, hdc, hvc⟩ := hcr
  refine wpAny_call (kla_callFunE hroom hf rfl hco hgen rfl ⟨c', oc, vs, tq, rfl, hoc, hdc, hvc⟩ ?_)
  rw [hbind]
  refine wpAny_pure (wpAny_newFunctionEnv hcell (fun y hy => ?_) (fun h₁ hns hsb => ⟨hlim.fresh _ hsb, ?_⟩) hkind)
  · rw [List.mem_singleton.mp hy]
    exact hP
  have kp : ∀ b o, h.get? b = some o → h₁.get? b = some o := fun b o e => hsb.extBut b o (Nat.ne_of_lt (Heap.lt_size e)) (Heap.get?_push_of_some _ e)
  show codeAny _ _ (.expr (.Subscript (.Name xL p1) (.Name xP p2) p3) (envX qual scope h.objs.size f (.ref c') clos)) _ _
  refine kla_codeExpr ?_
  have hic1 : h₁.IsCell cL (some (.ref a)) := by
    obtain ⟨o, ho, hd⟩ := hic
    exact ⟨o, kp _ _ ho, hd⟩
  have hl1 : h₁.IsList a its := by
    obtain ⟨o, ho, r⟩ := hl
    exact ⟨o, kp _ _ ho, r⟩
  refine Subscript_ (wpAny_Name (wpAny_loadName_free hkind hL hcl hic1 (wpAny_Name (wpAny_loadName_local hkind hP hns (show ([(xP, Value.int i t)] : List (Str × Value)).reverse.lookup xP = some (Value.int i t) by simp [List.lookup]) ?_) hd2) hd3) hd1)
  refine item_listR hl1 h0 hi hx ?_ rfl
  exact ⟨h₁, _, rfl, kp, .int _ _⟩
theorem each_range {acc : List Value} {n : Nat} (h1 : acc.length = n) (h2 : ∀ (j : Nat) v, acc[j]? = some v → ∃ t, v = .int (0 + (j : Int) * 1) t) : EachIs (fun v (i : Nat) => ∃ t, v = .int (i : Int) t) acc (List.range n) := by
  refine EachIs.of_zip (by rw [h1, List.length_range]) fun p hp => ?_
  obtain ⟨j, hj⟩ := List.mem_iff_getElem?.mp hp
  rw [List.getElem?_zip_eq_some] at hj
  obtain ⟨t, e⟩ := h2 j p.1 hj.1
  have e2 : p.2 = j := by
    have hj2 := hj.2
    have hl : j < n := by
      have := (List.getElem?_eq_some_iff.mp hj2).1
      rw [List.length_range] at this
      exact this
    rw [List.getElem?_range hl] at hj2
    exact (Option.some.inj hj2).symm
  refine ⟨t, ?_⟩
  rw [e, e2]
  congr 1
  omega
theorem sorted_range_key {r : Addr} {b : Int} {t u v : Tok} {f : Addr} {n : Nat} {Q : Value → Shared → Prop} (k : Nat → Int) (hh : A.handled = none) (hr : IsRange s.heap r 0 b 1 t u v) (hn : b = n) (hlen : n ≤ 100000) (hu : A.units + 2 < cLine)
    (turn : ∀ (i : Nat) (tt : Tok), i < n → ∀ (h : Heap) (tk : Nat), (∀ b o, s.heap.get? b = some o → h.get? b = some o) →
      wpAny (model prog w) A.in1.in1 (call (.ref f) [.int (i : Int) tt]) (KeyPure (.int (k i)) { s with heap := h, toks := tk }) (fun _ _ => False) { s with heap := h, toks := tk })
    (fin : ∀ (out : List Value) (c : Nat) (g h' : Heap) (tk : Nat) (p : Addr), (∀ b o, s.heap.get? b = some o → g.get? b = some o) → (∀ b o, g.get? b = some o → h'.get? b = some o) → g.objs.size ≤ p → h'.get? p = some (seqObj "list" out.toArray c) → out.length = n →
      EachIs (fun v (i : Nat) => ∃ t, v = .int (i : Int) t) out ((List.range n).mergeSort (dataLe false fun i => .int (k i))) → Q (.ref p) { s with heap := h', toks := tk }) :
    wpAny (model prog w) A (call (.builtin "sorted") [.ref r] [(Str.ofString "key", .ref f)]) Q E s := by
  refine call_function_entry_kw kind_sorted plain_sorted entry_sorted (ksk_s1 _ _) ?_
  unfold Builtin.«sorted»
  refine wpAny_bind (m := checkCount "sorted" 1 1 _) (wpAny_pure ?_)
  refine wpAny_bind (L2.collect_range (n := n) (A := A.in1) hh hr (small_one (by omega) (by omega) (by omega) (by omega)) (by rw [rangeSize_one]; split <;> omega) (by omega) fun h1 tk1 acc hk hacc => ?_)
  have hal : acc.toList.length = n := by rw [Array.length_toList]; exact hacc.1
  have eR := each_range hal fun j v hj => hacc.2 j v (by simpa using hj)
  have hz : acc.toList.length ≤ sizeLine := by rw [hal]; exact Nat.le_trans hlen (by decide)
  refine wpAny_bind (wpAny_newList ?_ hz)
  have hL : (h1.push (seqObj "list" acc.toList.toArray 0)).get? h1.objs.size = some (seqObj "list" acc.toList.toArray 0) := Heap.get?_push_size _ rfl
  refine wpAny_bind (wpAny_holding (wpAny_call_entry_kw slot_list_sort ⟨_, hL, rfl⟩ entry_list_sort ?body (ksk_l1 _ _)))
  rw [ksk_t1]
  have up : ∀ {g : Heap}, KeepsBut h1.objs.size (h1.push (seqObj "list" acc.toList.toArray 0)) g → ∀ b o, s.heap.get? b = some o → g.get? b = some o := fun {g} kp b o q =>
    kp b o (Nat.ne_of_lt (Heap.lt_size (hk b o q))) (Heap.get?_push_of_some _ (hk b o q))
  refine keyH_tree (kz := (List.range n).map fun i => PyData.int (k i)) (s := { s with heap := h1.push (seqObj "list" acc.toList.toArray 0), toks := tk1 }) hL (by rw [List.length_map, List.length_range]; exact hal.symm) hz ?al ?so ?un
    (keyH_turns (s := { s with heap := h1.push (seqObj "list" acc.toList.toArray 0), toks := tk1 }) eR fun v x hR hx h tk kp => ?_) fun h' tk out c kp hD ko => ⟨_, rfl, ?_⟩
  case al =>
    intro d hd d' hd'
    obtain ⟨i, _, rfl⟩ := List.mem_map.mp hd
    obtain ⟨j, _, rfl⟩ := List.mem_map.mp hd'
    rfl
  case so =>
    refine .inr fun d hd => ?_
    obtain ⟨i, _, rfl⟩ := List.mem_map.mp hd
    exact ⟨(fun e => nomatch e), (fun xs e => nomatch e)⟩
  case un =>
    intro d hd
    obtain ⟨i, _, rfl⟩ := List.mem_map.mp hd
    show A.units + 1 + 1 + 0 < cLine
    omega
  · obtain ⟨tt, rfl⟩ := hR
    exact turn x tt (List.mem_range.mp hx) h tk (up kp)
  · refine wpAny_pure ⟨_, rfl, ?_⟩
    refine fin out c h1 h' tk h1.objs.size hk (fun b o q => kp b o (Nat.ne_of_lt (Heap.lt_size q)) (Heap.get?_push_of_some _ q)) (Nat.le_refl _) hD ?_ (keyedOut_each (fun i => PyData.int (k i)) ko eR)
    · exact (ko.length (by rw [List.length_map, List.length_range]; exact hal.symm)).trans hal
end
/-! ### the order -/
def leK (k : Nat → Int) (i j : Nat) : Bool := decide (k i ≤ k j)
def orderOf (ns : List Int) : List Nat := (List.range ns.length).mergeSort (leK fun i => ns.getD i 0)
theorem dataLe_int (k : Nat → Int) (i j : Nat) : dataLe false (fun i => PyData.int (k i)) i j = leK k i j := by
  show (!(decide (k j < k i) || (!decide (k i < k j) && false))) = decide (k i ≤ k j)
  rw [Bool.and_false, Bool.or_false]
  by_cases h : k j < k i
  · rw [decide_eq_true h, decide_eq_false (by omega)]
    rfl
  · rw [decide_eq_false h, decide_eq_true (by omega)]
    rfl
theorem vals_each {out : List Value} {is : List Nat} (h : EachIs (fun v (i : Nat) => ∃ t, v = .int (i : Int) t) out is) : L2.Vals (is.map fun (i : Nat) => L2.V.int (i : Int)) out := by
  induction h with
  | nil => exact .nil
  | cons h _ ih => exact .cons h ih
end Fp
namespace Fp
open PySem PySem.Spec PyProof.Rows L2 LamX
section
variable {X : Cx}
theorem cr_range1 : CallR X (.type "range") (fun vs H Q => ∃ j, vs = [V.int j] ∧ ∀ p, H p = none → Q (.ref p) (upd H p (.rng 0 j))) := by
  intro pins s σ H vs us Q I r h
  obtain ⟨j, rfl, q⟩ := h
  obtain ⟨u, rfl, t, rfl⟩ := vals1 r
  refine call_range_1 ⟨.ref s.heap.objs.size, upd H s.heap.objs.size (.rng 0 j), I.laid (t' := s.toks + 1 + 1) (fun b o e => Heap.get?_push_of_some _ e) (Nat.le_refl _) ?_, rfl, q _ (I.hok.fresh (Nat.le_refl _))⟩
  exact ⟨_, _, _, Heap.get?_push_size _ rfl⟩
/-- sorted(range(len(xs)), key=lambda i: xs[i]): l in slot iL holds xs -/
def tSortLam (T : List (Addr × Str)) (iL : Nat) (ta : TA) : TE := fun σ H Q => ta σ H fun vs H1 => ∃ (r l : Addr) (ns : List Int), vs = [.ref r] ∧ H1 r = some (.rng 0 (ns.length : Int)) ∧ Tabs T H1 ∧ σ[iL]? = some (some (.ref l)) ∧ H1 l = some (.lst (ns.map V.int)) ∧ ns.length ≤ 1000 ∧
  ∀ p H2, ExtN H1 H2 → Tabs T H2 → H2 p = none → Q (.ref p) (upd H2 p (.lst ((orderOf ns).map fun (i : Nat) => V.int (i : Int))))
theorem pe_sortLam {T : List (Addr × Str)} {c P : Addr} {iL k : Nat} {e : Expr} {ta : TA} {params : Arguments} {scope : Scope} {xL xP : Str} {p p1 p2 p3 lpos kpos pos : Pos} (hg : Gl X "sorted") (hm : X.mg "sorted" = none) (ha : PA X [e] ta)
    (TB : TabB X.base X.mg c P) (hcode : X.env.code = .ref c) (hmT : (P, X.env.qual ++ "<lambda>") ∈ T) (hu : ∀ p ∈ T, p.1 = P → p.2 = X.env.qual ++ "<lambda>") (hr : Room k X.A) (hN : X.N[iL]? = some xL)
    (hcalm : X.calm = true)
    (hcL : X.env.scope.names.lookup xL = some .cell) (hkind : scope.kind = .function) (hco : scope.isCoroutine = false) (hgen : scope.isGenerator = false) (hnm : scope.names = [(xP, .local), (xL, .free)]) (hne : (xP == xL) = false)
    (hdef : defaultsOf params X.env = ([], []))
    (hbind : ∀ (q : Str) (cl : List (Str × Addr)) (pm cv ctv v : Value), bindArgs (PySem.W.kla_fn "<lambda>" q params (.Subscript (.Name xL p1) (.Name xP p2) p3) scope cl pm cv ctv) ⟨[v], []⟩ = pure [(xP, v)])
    (hd1 : (xL == ("__debug__" : Str)) = false := by decide) (hd2 : (xP == ("__debug__" : Str)) = false := by decide) (hd3 : (xL == ("__classdict__" : Str)) = false := by decide)
    (he : backTo pos (starEach [e] X.env) = (false, eval e X.env) :: backTo pos (starEach [] X.env) := by rfl) (hpl : (backTo pos (starEach [e] X.env)).any (·.1) = false := by rfl) :
    PE X (.Call (.Name "sorted" p) [e] [⟨some "key", .Lambda params (.Subscript (.Name xL p1) (.Name xP p2) p3) scope lpos, kpos⟩] pos) (tSortLam T iL ta) := by
  refine ⟨fun pins s σ H Q I h => ?_⟩
  refine wpAny_Call_Name_kw (ld_blt I hg hm (show bootBuiltins "sorted" = some (.builtin "sorted") by decide +kernel) ?_)
  refine PyProof.Rows.callWith_kw (thn (ha.run pos pins s σ H _ I h) fun us s1 ⟨vs, H1, I1, r1, q1⟩ => ?_) he hpl rfl rfl
  obtain ⟨r, l, ns, rfl, hrng, hT, hσ, hl, hlen, q⟩ := q1
  obtain ⟨u1, rfl, e1⟩ := vals1 r1
  obtain rfl : u1 = Value.ref r := e1
  show wpAny _ _ (evalAll ((do let v ← eval (.Lambda params (.Subscript (.Name xL p1) (.Name xP p2) p3) scope lpos) X.env; standAt pos; pure v) :: [])) _ _ s1
  refine wpAny_evalAll_cons (wpAny_bind (lam_make2 I1 TB hcode hmT hu hT hdef (fun y hy ey => ?_) fun f c' pm ctv H2 s2 I2 eN T2 hf hfn hfr hco2 => wpAny_bind (wpAny_standAt (wpAny_pure (wpAny_evalAll_nil ?_)))))
  · rw [hnm] at hy
    rcases List.mem_cons.mp hy with z | z
    · rw [z] at ey
      cases ey
    · rw [List.mem_singleton.mp z]
      exact I1.ok.has _ (.inl hcL)
  show wpAny _ _ (call (.builtin "sorted") [.ref r] [(Str.ofString "key", .ref f)]) _ _ _
  have hr2 : H2 r = some (.rng 0 (ns.length : Int)) := eN r _ hrng (fun ps z => by cases z)
  have hl2 : H2 l = some (.lst (ns.map V.int)) := eN l _ hl (fun ps z => by cases z)
  obtain ⟨t, u, v, hrr⟩ := I2.hok r _ hr2
  obtain ⟨hz, its, cn, hv, hget⟩ := I2.hok l _ hl2
  obtain ⟨m, hn, hloc⟩ := I2.loc
  obtain ⟨ul, rul, look⟩ := hloc iL xL (.ref l) hN hσ (.inr (.inl hcL))
  obtain rfl : ul = Value.ref l := rul
  obtain ⟨cL, hcl, hcell⟩ : ∃ cL, X.env.cells.lookup xL = some cL ∧ s2.heap.IsCell cL (some (.ref l)) := by
    rcases look with ⟨hk, _⟩ | ⟨_, c3, h1, h2⟩
    · have hk : X.env.scope.names.lookup xL = some .local := hk
      rw [hcL] at hk
      cases hk
    · exact ⟨c3, h1, h2⟩
  have hclo : (cloFrom X.env.cells scope.names []).lookup xL = some cL := by
    rw [hnm]
    show (cloFrom X.env.cells [(xL, .free)] []).lookup xL = some cL
    show ([(xL, (X.env.cells.lookup xL).getD 0)] : List (Str × Addr)).lookup xL = some cL
    rw [hcl]
    simp [List.lookup]
  obtain ⟨⟨oc, cvs, ct, hoc, hdc, hvc⟩, _, _⟩ := I2.hok c' _ hco2
  refine sorted_range_key (n := ns.length) (fun i => ns.getD i 0) (I2.ok.hd hcalm) hrr rfl (by omega) (by have := hr.un; omega) (fun i tt hi h tk kp => ?_) fun out c g h' tk p kg gh hgp hp lo each => ?_
  · have hx : (ns.map V.int)[i]? = some (.int (ns.getD i 0)) := by
      rw [List.getElem?_map, List.getElem?_eq_getElem hi, List.getD_eq_getElem?_getD, List.getElem?_eq_getElem hi]
      rfl
    obtain ⟨w', ew, tx, rfl⟩ := hv.get hx
    obtain ⟨oC, hoC, hdC⟩ := hcell
    refine key_turn (A := X.A.in1.in1) (cL := cL) (a := l) (its := its.toArray) (by show X.A.depth < recursionLimit; have := hr.dp; omega) (kp _ _ hf) hkind hco hgen ?_ ?_ ?_ hclo ⟨oC, kp _ _ hoC, hdC⟩ ⟨oc, cvs, ct, kp _ _ hoc, hdc, hvc⟩ (fun v => hbind _ _ _ _ _ v) (I2.nolimit.keeps kp) ⟨_, kp _ _ hget, rfl, cn, rfl⟩ (by omega) (by omega) (by simpa using ew) hd1 hd2 hd3
    · intro y hy
      rw [hnm] at hy
      rcases List.mem_cons.mp hy with z | z
      · rw [z]
        exact (fun e => nomatch e)
      · rw [List.mem_singleton.mp z]
        exact (fun e => nomatch e)
    · rw [hnm]
      simp [List.lookup]
    · rw [hnm]
      have : (xL == xP) = false := by
        rw [← Bool.not_eq_true] at hne ⊢
        intro z
        exact hne (by rw [beq_iff_eq] at z ⊢; exact z.symm)
      simp [List.lookup, this]
  · have I3 : Inv X pins σ H2 { s2 with heap := g, toks := tk } := I2.kept kg
    have fr : H2 p = none := I3.hok.fresh hgp
    have each2 : PySem.W.EachIs (fun v (i : Nat) => ∃ t, v = .int (i : Int) t) out (orderOf ns) := by
      have es : (List.range ns.length).mergeSort (PySem.W.dataLe false fun i => PyData.int (ns.getD i 0)) = orderOf ns := PySem.W.sort_congr fun a _ b _ => dataLe_int _ a b
      rw [← es]
      exact each
    have ol : (orderOf ns).length = ns.length := by
      unfold orderOf
      rw [List.length_mergeSort, List.length_range]
    have I4 : Inv X pins σ (upd H2 p (.lst ((orderOf ns).map fun (i : Nat) => V.int (i : Int)))) { s2 with heap := h', toks := tk } := I3.laid (t' := tk) gh hgp ⟨by rw [List.length_map, ol]; exact sz (by omega), out, c, vals_each each2, hp⟩
    exact ⟨.ref p, _, I4, rfl, q p H2 eN T2 fr⟩
end
end Fp

set_option Elab.async false
set_option linter.all false
set_option maxRecDepth 100000
set_option maxHeartbeats 4000000
/-! words by lengths: the mathematics. -/
namespace Fp
open PySem PyProof.Rows
/-! ### the order by buckets -/
theorem leK_total (k : Nat → Int) : PySem.W.TotalLe (leK k) where
  trans := fun a b c h1 h2 => by
    unfold leK at *
    have := of_decide_eq_true h1
    have := of_decide_eq_true h2
    exact decide_eq_true (by omega)
  total := fun a b => by
    unfold leK
    by_cases h : k a ≤ k b
    · exact .inl (decide_eq_true h)
    · exact .inr (decide_eq_true (by omega))
def buckets (k : Nat → Int) (n : Nat) : List Nat := (List.range 13).flatMap fun (v : Nat) => (List.range n).filter fun (i : Nat) => decide (k i = (v : Int))
theorem flat_one {α : Type} (X : List α) (c : Nat) : ∀ l : List Nat, l.Nodup → (l.flatMap fun v => if v = c then X else []) = if c ∈ l then X else []
  | [], _ => rfl
  | v :: r, h => by
    have h1 := List.nodup_cons.mp h
    have ih := flat_one X c r h1.2
    rw [List.flatMap_cons, ih]
    by_cases e : v = c
    · subst e
      rw [if_pos rfl, if_neg h1.1, if_pos (List.mem_cons_self ..), List.append_nil]
    · rw [if_neg e, List.nil_append]
      by_cases m : c ∈ r
      · rw [if_pos m, if_pos (List.mem_cons_of_mem _ m)]
      · rw [if_neg m, if_neg (fun z => by
          rcases List.mem_cons.mp z with z | z
          · exact e z.symm
          · exact m z)]
theorem rank_eq (k : Nat → Int) (c a : Nat) : PySem.W.sameRank (leK k) c a = decide (k a = k c) := by
  unfold PySem.W.sameRank leK
  by_cases h : k a = k c
  · rw [decide_eq_true h, decide_eq_true (by omega), decide_eq_true (by omega)]
    rfl
  · rw [decide_eq_false h]
    by_cases h2 : k c ≤ k a
    · rw [decide_eq_true h2, decide_eq_false (by omega)]
      rfl
    · rw [decide_eq_false h2]
      rfl
theorem order_buckets (k : Nat → Int) (n : Nat) (h : ∀ i, i < n → 0 ≤ k i ∧ k i ≤ 12) : (List.range n).mergeSort (leK k) = buckets k n := by
  symm
  refine PySem.W.sort_unique (leK_total k) ?_ fun c => ?_
  · unfold buckets
    rw [List.pairwise_flatMap]
    refine ⟨fun v _ => ?_, ?_⟩
    · refine List.Pairwise.imp_of_mem (fun {a b} ha hb _ => ?_) (List.Pairwise.filter _ List.pairwise_lt_range)
      have e1 := of_decide_eq_true (List.mem_filter.mp ha).2
      have e2 := of_decide_eq_true (List.mem_filter.mp hb).2
      exact decide_eq_true (by omega)
    · refine List.Pairwise.imp (fun {v v'} hv x hx y hy => ?_) List.pairwise_lt_range
      have e1 := of_decide_eq_true (List.mem_filter.mp hx).2
      have e2 := of_decide_eq_true (List.mem_filter.mp hy).2
      exact decide_eq_true (by omega)
  · have eq : PySem.W.sameRank (leK k) c = fun a => decide (k a = k c) := funext fun a => rank_eq k c a
    rw [eq]
    unfold buckets
    rw [List.filter_flatMap]
    by_cases hc : 0 ≤ k c ∧ k c ≤ 12
    · obtain ⟨vc, hvc⟩ := Int.eq_ofNat_of_zero_le hc.1
      have e : (fun v : Nat => ((List.range n).filter fun i => decide (k i = (v : Int))).filter fun a => decide (k a = k c)) = fun v => if v = vc then (List.range n).filter fun a => decide (k a = k c) else [] := by
        funext v
        by_cases ev : v = vc
        · subst ev
          rw [if_pos rfl, hvc, List.filter_filter]
          simp
        · rw [if_neg ev, List.filter_filter]
          apply List.filter_eq_nil_iff.mpr
          intro a _ z
          rw [Bool.and_eq_true, decide_eq_true_eq, decide_eq_true_eq] at z
          omega
      rw [e, flat_one _ _ _ List.nodup_range, if_pos (List.mem_range.mpr (by omega))]
    · have e1 : (List.range n).filter (fun a => decide (k a = k c)) = [] := by
        apply List.filter_eq_nil_iff.mpr
        intro a ha z
        have := h a (List.mem_range.mp ha)
        have := of_decide_eq_true z
        exact hc (by omega)
      rw [e1]
      apply List.flatMap_eq_nil_iff.mpr
      intro v _
      rw [List.filter_filter]
      apply List.filter_eq_nil_iff.mpr
      intro a ha z
      rw [Bool.and_eq_true, decide_eq_true_eq, decide_eq_true_eq] at z
      have := h a (List.mem_range.mp ha)
      exact hc (by omega)
/-! ### words -/
def lastOne : List Nat → Option Nat
  | [] => none
  | c :: r => match lastOne r with
    | some i => some (i + 1)
    | none => if c = 49 then some 0 else none
theorem lastOne_spec : ∀ w : List Nat, (lastOne w = none ∧ ∀ i : Nat, w[i]? ≠ some 49) ∨ ∃ i : Nat, lastOne w = some i ∧ w[i]? = some 49 ∧ ∀ k : Nat, i < k → w[k]? ≠ some 49
  | [] => .inl ⟨rfl, fun i h => by simp at h⟩
  | c :: r => by
    rcases lastOne_spec r with ⟨e, h⟩ | ⟨i, e, h1, h2⟩
    · by_cases hc : c = 49
      · refine .inr ⟨0, ?_, ?_, fun k hk => ?_⟩
        · show (match lastOne r with | some i => some (i + 1) | none => if c = 49 then some 0 else none) = some 0
          rw [e]
          exact if_pos hc
        · rw [hc]
          rfl
        · obtain ⟨j, rfl⟩ : ∃ j, k = j + 1 := ⟨k - 1, by omega⟩
          exact h j
      · refine .inl ⟨?_, fun i => ?_⟩
        · show (match lastOne r with | some i => some (i + 1) | none => if c = 49 then some 0 else none) = none
          rw [e]
          exact if_neg hc
        · cases i with
          | zero => exact fun z => hc (Option.some.inj z)
          | succ j => exact h j
    · refine .inr ⟨i + 1, ?_, h1, fun k hk => ?_⟩
      · show (match lastOne r with | some i => some (i + 1) | none => if c = 49 then some 0 else none) = some (i + 1)
        rw [e]
      · obtain ⟨j, rfl⟩ : ∃ j, k = j + 1 := ⟨k - 1, by omega⟩
        exact h2 j (by omega)
def lessW (w : List Nat) : List Nat := match lastOne w with
  | none => []
  | some i => w.take i ++ 48 :: List.replicate (w.length - i - 1) 49
def stepW (ns : List Nat) (st : List (List Nat) × Option (List Nat)) (p : Nat) : List (List Nat) × Option (List Nat) :=
  let b := match st.2 with
    | none => []
    | some w => lessW w
  let a := b ++ List.replicate (ns.getD p 0 - b.length) 49
  (st.1.set p a, some a)
def okW (ns : List Nat) : List Nat → List (List Nat) × Option (List Nat) → Bool
  | [], _ => true
  | p :: r, st => (match st.2 with
    | none => true
    | some w => (lastOne w).isSome) && okW ns r (stepW ns st p)
def iv (ns : List Nat) : List Int := ns.map fun (n : Nat) => (n : Int)
def startW (ns : List Nat) : List (List Nat) × Option (List Nat) := (List.replicate ns.length [], none)
def wordsOf (ns : List Nat) : List (List Nat) := ((buckets (fun i => (iv ns).getD i 0) ns.length).foldl (stepW ns) (startW ns)).1
def lightL : List Nat := [6, 4, 4, 4, 4, 4, 5, 5, 5, 5, 6, 6, 6, 6, 6, 6, 4, 5, 6, 4]
def darkL : List Nat := [7, 2, 3, 3, 4, 4, 5, 5, 5, 6, 6, 6, 7, 7, 7, 7, 6, 7, 7, 7]
def bitsVal (w : List Nat) : Nat := w.foldl (fun n c => 2 * n + if c = 49 then 1 else 0) 0
def bitsOf : Nat → Nat → List Nat → List Nat
  | 0, _, acc => acc
  | k + 1, n, acc => bitsOf k (n / 2) ((48 + n % 2) :: acc)
def lawLess (w : List Nat) : Option (List Nat) := if bitsVal w = 0 then none else some (bitsOf w.length (bitsVal w - 1) [])
def stepL (ns : List Nat) (len : Nat) (st : Option (List (List Nat) × List Nat)) (p : Nat) : Option (List (List Nat) × List Nat) := match st with
  | none => none
  | some (f, l) => if ns.getD p 0 = len then (match (if l = [] then some [] else lawLess l) with
      | none => none
      | some b => some (f.set p (b ++ List.replicate (len - b.length) 49), b ++ List.replicate (len - b.length) 49)) else some (f, l)
def rowL (ns : List Nat) (st : Option (List (List Nat) × List Nat)) (len : Nat) : Option (List (List Nat) × List Nat) := (List.range ns.length).foldl (stepL ns len) st
def lawW (ns : List Nat) : Option (List (List Nat) × List Nat) := ((List.range 12).map (· + 1)).foldl (rowL ns) (some (List.replicate ns.length [], []))
theorem light_ok : okW lightL (buckets (fun i => (iv lightL).getD i 0) lightL.length) (startW lightL) = true := by decide +kernel
theorem dark_ok : okW darkL (buckets (fun i => (iv darkL).getD i 0) darkL.length) (startW darkL) = true := by decide +kernel
theorem light_same : (lawW lightL).map (·.1) = some (wordsOf lightL) := by decide +kernel
theorem dark_same : (lawW darkL).map (·.1) = some (wordsOf darkL) := by decide +kernel
theorem third_some : (lawW [1, 3, 3, 3, 5, 5, 6, 6, 6]).isSome = true := by decide +kernel

theorem okW_at {ns : List Nat} : ∀ (ord : List Nat) (st0 : List (List Nat) × Option (List Nat)) (i p : Nat), ord[i]? = some p → okW ns ord st0 = true → ∀ w, ((ord.take i).foldl (stepW ns) st0).2 = some w → ∃ j, lastOne w = some j
  | [], _, i, p, h, _ => by simp at h
  | q :: r, st0, 0, p, h, ok => fun w hw => by
    unfold okW at ok
    rw [Bool.and_eq_true] at ok
    have h1 := ok.1
    have hw : st0.2 = some w := hw
    rw [hw] at h1
    exact Option.isSome_iff_exists.mp h1
  | q :: r, st0, i + 1, p, h, ok => by
    unfold okW at ok
    rw [Bool.and_eq_true] at ok
    exact okW_at r (stepW ns st0 q) i p h ok.2
def LenW (st : List (List Nat) × Option (List Nat)) : Prop := ∀ w, st.2 = some w → w.length ≤ 12
theorem lessW_le (w : List Nat) : (lessW w).length ≤ w.length := by
  unfold lessW
  rcases lastOne_spec w with ⟨e, _⟩ | ⟨i, e, h1, _⟩
  · rw [e]
    exact Nat.zero_le _
  · rw [e]
    have := (List.getElem?_eq_some_iff.mp h1).1
    show (w.take i ++ 48 :: List.replicate (w.length - i - 1) 49).length ≤ w.length
    rw [List.length_append, List.length_cons, List.length_replicate, List.length_take]
    omega
theorem lenW_step {ns : List Nat} (hn : ∀ n ∈ ns, n ≤ 12) {st : List (List Nat) × Option (List Nat)} (h : LenW st) (p : Nat) : LenW (stepW ns st p) := by
  intro w hw
  have hg : ns.getD p 0 ≤ 12 := by
    rw [List.getD_eq_getElem?_getD]
    cases e : ns[p]? with
    | none => exact Nat.zero_le _
    | some n => exact hn n (List.mem_of_getElem? e)
  have e : (match st.2 with | none => [] | some w => lessW w) ++ List.replicate (ns.getD p 0 - (match st.2 with | none => [] | some w => lessW w).length) 49 = w := Option.some.inj hw
  rw [← e, List.length_append, List.length_replicate]
  cases h2 : st.2 with
  | none => show 0 + (ns.getD p 0 - 0) ≤ 12; omega
  | some u =>
    have := h u h2
    have := lessW_le u
    show (lessW u).length + (ns.getD p 0 - (lessW u).length) ≤ 12
    omega
theorem lenW_fold {ns : List Nat} (hn : ∀ n ∈ ns, n ≤ 12) : ∀ (ord : List Nat) (st : List (List Nat) × Option (List Nat)), LenW st → LenW (ord.foldl (stepW ns) st)
  | [], _, h => h
  | p :: r, st, h => lenW_fold hn r _ (lenW_step hn h p)
theorem lenW_start (ns : List Nat) : LenW (startW ns) := fun w h => nomatch h
theorem words_len (ns : List Nat) : ∀ (ord : List Nat) (st : List (List Nat) × Option (List Nat)), (ord.foldl (stepW ns) st).1.length = st.1.length
  | [], _ => rfl
  | p :: r, st => by
    rw [List.foldl_cons, words_len ns r]
    exact List.length_set
theorem mem_buckets {k : Nat → Int} {n p : Nat} (h : p ∈ buckets k n) : p < n := by
  unfold buckets at h
  obtain ⟨v, _, hv⟩ := List.mem_flatMap.mp h
  exact List.mem_range.mp (List.mem_filter.mp hv).1
theorem iv_len (ns : List Nat) : (iv ns).length = ns.length := List.length_map ..
theorem order_iv {ns : List Nat} (hn : ∀ n ∈ ns, n ≤ 12) : orderOf (iv ns) = buckets (fun i => (iv ns).getD i 0) ns.length := by
  unfold orderOf
  rw [iv_len]
  refine order_buckets _ _ fun i hi => ?_
  have e : (iv ns).getD i 0 = (ns[i] : Int) := by
    unfold iv
    rw [List.getD_eq_getElem?_getD, List.getElem?_map, List.getElem?_eq_getElem hi]
    rfl
  have := hn ns[i] (List.getElem_mem hi)
  show 0 ≤ (iv ns).getD i 0 ∧ (iv ns).getD i 0 ≤ 12
  rw [e]
  omega
theorem lens_light : ∀ w ∈ Fp.wordsOf lightL, w.length ≤ 12 := by decide +kernel
theorem lens_dark : ∀ w ∈ Fp.wordsOf darkL, w.length ≤ 12 := by decide +kernel
theorem len_light : (Fp.wordsOf lightL).length = 20 := by decide +kernel
theorem len_dark : (Fp.wordsOf darkL).length = 20 := by decide +kernel
def runT (W : List (List Nat)) (r : Nat) : List Nat := if r < 16 then W.getD r [] else W.getD (15 + r / 16) [] ++ W.getD (r - r / 16 * 16) []
theorem foldl_keep {α β : Type} (f : Option α → β → Option α) (h : ∀ b, f none b = none) : ∀ l : List β, l.foldl f none = none
  | [] => rfl
  | b :: r => by
    rw [List.foldl_cons, h]
    exact foldl_keep f h r
theorem fold_take {α β : Type} (f : Option α → β → Option α) (h : ∀ b, f none b = none) (l : List β) (s : Option α) (i : Nat) (e : (l.take i).foldl f s = none) : l.foldl f s = none := by
  rw [← List.take_append_drop i l, List.foldl_append, e]
  exact foldl_keep f h _
theorem stepL_none (ns : List Nat) (len p : Nat) : stepL ns len none p = none := rfl
theorem rowL_none (ns : List Nat) (len : Nat) : rowL ns none len = none := foldl_keep _ (stepL_none ns len) _
def ls12 : List Nat := (List.range 12).map (· + 1)
theorem ls12_at {i : Nat} (h : i < 12) : ls12[i]? = some (i + 1) := by
  unfold ls12
  rw [List.getElem?_map, List.getElem?_range h]
  rfl
theorem lawW_eq (ns : List Nat) : lawW ns = ls12.foldl (rowL ns) (some (List.replicate ns.length [], [])) := rfl
theorem lawLess_len {l b : List Nat} (h : lawLess l = some b) : b.length = l.length := by
  have key : ∀ (k n : Nat) (acc : List Nat), (bitsOf k n acc).length = k + acc.length := by
    intro k
    induction k with
    | zero => intro n acc; show acc.length = 0 + acc.length; omega
    | succ k ih =>
      intro n acc
      show (bitsOf k (n / 2) ((48 + n % 2) :: acc)).length = _
      rw [ih, List.length_cons]
      omega
  unfold lawLess at h
  split at h
  · cases h
  · have := Option.some.inj h
    rw [← this, key]
    rfl
theorem stepL_no {ns : List Nat} {len p : Nat} {f : List (List Nat)} {l : List Nat} (h : ¬ ns.getD p 0 = len) : stepL ns len (some (f, l)) p = some (f, l) := if_neg h
theorem stepL_yes {ns : List Nat} {len p : Nat} {f : List (List Nat)} {l b : List Nat} (h : ns.getD p 0 = len) (hb : (if l = [] then some [] else lawLess l) = some b) :
    stepL ns len (some (f, l)) p = some (f.set p (b ++ List.replicate (len - b.length) 49), b ++ List.replicate (len - b.length) 49) := by
  refine (if_pos h).trans ?_
  rw [hb]
theorem stepL_bad {ns : List Nat} {len p : Nat} {f : List (List Nat)} {l : List Nat} (h : ns.getD p 0 = len) (hb : (if l = [] then some [] else lawLess l) = none) : stepL ns len (some (f, l)) p = none := by
  refine (if_pos h).trans ?_
  rw [hb]
end Fp

set_option Elab.async false
set_option linter.all false
set_option maxRecDepth 100000
set_option maxHeartbeats 4000000
/-! words by lengths: which lengths have words, and that no word begins another. -/
namespace Fp
open PySem PyProof.Rows
abbrev veB : List Value := [.type "ValueError", .type "Exception", .type "BaseException", .type "object"]
theorem exm_own {K : PySem.W.Frag} {S : Addr} (h1 : PySem.W.subIn K (.ref S) (.type "BaseException") = some true) (h2 : PySem.W.isClsIn K S = true) (h3 : PySem.W.typeIn K (.ref S) = some (.type "type")) (h4 : PySem.W.subIn K (.ref S) (.ref S) = some true) : PySem.W.exmOne K (.ref S) (.ref S) = some true := by
  unfold PySem.W.isClsIn at h2
  simp [PySem.W.exmOne, PySem.W.kitCls, h1, h2, h3, h4]
def wt (n : Nat) : Nat := 2 ^ (12 - n)
def sumW (ns ps : List Nat) : Nat := (ps.map fun p => wt (ns.getD p 0)).sum
def Bits (w : List Nat) : Prop := ∀ c ∈ w, c = 48 ∨ c = 49
def lo (w : List Nat) : Nat := bitsVal w * wt w.length
theorem val_from (w : List Nat) : ∀ a : Nat, w.foldl (fun n c => 2 * n + if c = 49 then 1 else 0) a = a * 2 ^ w.length + bitsVal w := by
  induction w with
  | nil => intro a; show a = a * 1 + 0; omega
  | cons c r ih =>
    intro a
    have e1 := ih (2 * a + if c = 49 then 1 else 0)
    have e2 := ih (2 * 0 + if c = 49 then 1 else 0)
    show r.foldl _ (2 * a + if c = 49 then 1 else 0) = a * 2 ^ (r.length + 1) + r.foldl _ (2 * 0 + if c = 49 then 1 else 0)
    rw [e1, e2, Nat.pow_succ, Nat.add_mul, Nat.mul_zero, Nat.zero_add, ← Nat.add_assoc]
    congr 2
    rw [Nat.mul_comm (2 ^ r.length) 2, ← Nat.mul_assoc, Nat.mul_comm a 2]
theorem val_app (u v : List Nat) : bitsVal (u ++ v) = bitsVal u * 2 ^ v.length + bitsVal v := by
  show (u ++ v).foldl _ 0 = _
  rw [List.foldl_append]
  exact val_from v _
theorem val_cons (c : Nat) (r : List Nat) : bitsVal (c :: r) = (if c = 49 then 1 else 0) * 2 ^ r.length + bitsVal r := by
  show r.foldl _ (2 * 0 + if c = 49 then 1 else 0) = _
  rw [val_from, Nat.mul_zero, Nat.zero_add]
theorem val_ones (n : Nat) : bitsVal (List.replicate n 49) + 1 = 2 ^ n := by
  induction n with
  | zero => rfl
  | succ k ih =>
    rw [List.replicate_succ, val_cons, if_pos rfl, List.length_replicate, Nat.one_mul, Nat.pow_succ, Nat.add_assoc, ih]
    omega
theorem val_lt (w : List Nat) : bitsVal w < 2 ^ w.length := by
  induction w with
  | nil => exact Nat.one_pos
  | cons c r ih =>
    rw [val_cons, List.length_cons, Nat.pow_succ]
    split <;> omega
theorem val_none {w : List Nat} (h : ∀ i : Nat, w[i]? ≠ some 49) : bitsVal w = 0 := by
  induction w with
  | nil => rfl
  | cons c r ih =>
    rw [val_cons, if_neg (fun e => h 0 (by rw [e]; rfl)), Nat.zero_mul, Nat.zero_add]
    exact ih fun i => h (i + 1)
theorem less_val {w : List Nat} {i : Nat} (hb : Bits w) (h : lastOne w = some i) : Bits (lessW w) ∧ (lessW w).length = w.length ∧ bitsVal (lessW w) + 1 = bitsVal w := by
  rcases lastOne_spec w with ⟨e, _⟩ | ⟨i2, e, h1, h2⟩
  · rw [e] at h
    cases h
  · rw [e] at h
    cases h
    obtain ⟨hi, h1'⟩ := List.getElem?_eq_some_iff.mp h1
    have ew : w = w.take i ++ 49 :: w.drop (i + 1) := by
      conv => lhs; rw [← List.take_append_drop i w]
      rw [List.drop_eq_getElem_cons hi, h1']
    have hz : bitsVal (w.drop (i + 1)) = 0 := val_none fun k => by
      rw [List.getElem?_drop]
      exact h2 _ (by omega)
    have dl : (w.drop (i + 1)).length = w.length - i - 1 := by rw [List.length_drop]; omega
    have el : lessW w = w.take i ++ 48 :: List.replicate (w.length - i - 1) 49 := by
      unfold lessW
      rw [e]
    refine ⟨fun c hc => ?_, ?_, ?_⟩
    · rw [el] at hc
      rcases List.mem_append.mp hc with z | z
      · exact hb c (List.mem_of_mem_take z)
      · rcases List.mem_cons.mp z with z | z
        · exact .inl z
        · exact .inr (List.mem_replicate.mp z).2
    · rw [el, List.length_append, List.length_cons, List.length_replicate, List.length_take]
      omega
    · have v1 : bitsVal w = bitsVal (w.take i) * 2 ^ (w.length - i - 1 + 1) + 2 ^ (w.length - i - 1) := by
        conv => lhs; rw [ew]
        rw [val_app, val_cons, if_pos rfl, hz, List.length_cons, dl, Nat.one_mul]
        rfl
      have v2 : bitsVal (lessW w) = bitsVal (w.take i) * 2 ^ (w.length - i - 1 + 1) + bitsVal (List.replicate (w.length - i - 1) 49) := by
        rw [el, val_app, val_cons, if_neg (by decide), List.length_cons, List.length_replicate, Nat.zero_mul, Nat.zero_add]
      rw [v1, v2, Nat.add_assoc, val_ones]
theorem new_word {u : List Nat} {v n : Nat} (hb : Bits u) (hl : u.length ≤ n) (hn : n ≤ 12) (hv : bitsVal u + 1 = v) : Bits (u ++ List.replicate (n - u.length) 49) ∧ (u ++ List.replicate (n - u.length) 49).length = n ∧ lo (u ++ List.replicate (n - u.length) 49) + wt n = v * wt u.length := by
  have l : (u ++ List.replicate (n - u.length) 49).length = n := by
    rw [List.length_append, List.length_replicate]
    omega
  refine ⟨fun c hc => ?_, l, ?_⟩
  · rcases List.mem_append.mp hc with z | z
    · exact hb c z
    · exact .inr (List.mem_replicate.mp z).2
  · unfold lo
    rw [l]
    have e : bitsVal (u ++ List.replicate (n - u.length) 49) + 1 = v * 2 ^ (n - u.length) := by
      rw [val_app, List.length_replicate, Nat.add_assoc, val_ones, ← hv, Nat.add_mul, Nat.one_mul]
    have e2 : bitsVal (u ++ List.replicate (n - u.length) 49) * wt n + wt n = (bitsVal (u ++ List.replicate (n - u.length) 49) + 1) * wt n := by
      rw [Nat.add_mul, Nat.one_mul]
    rw [e2, e, Nat.mul_assoc]
    congr 1
    unfold wt
    rw [← Nat.pow_add]
    congr 1
    omega
def Ap (u v : List Nat) : Prop := lo u + wt u.length ≤ lo v ∨ lo v + wt v.length ≤ lo u
structure Iv (ns done : List Nat) (st : List (List Nat) × Option (List Nat)) : Prop where
  len : st.1.length = ns.length
  no : st.2 = none → done = []
  last : ∀ w, st.2 = some w → Bits w ∧ w.length ≤ 12 ∧ lo w + sumW ns done = 4096
  each : ∀ p ∈ done, Bits (st.1.getD p []) ∧ (st.1.getD p []).length = ns.getD p 0 ∧ 4096 ≤ lo (st.1.getD p []) + sumW ns done
  apart : ∀ p ∈ done, ∀ q ∈ done, p ≠ q → Ap (st.1.getD p []) (st.1.getD q [])
theorem iv_start (ns : List Nat) : Iv ns [] (startW ns) where
  len := List.length_replicate
  no := fun _ => rfl
  last := fun w h => nomatch h
  each := fun p h => nomatch h
  apart := fun p h => nomatch h
theorem getD_set {l : List (List Nat)} {p q : Nat} {a : List Nat} (h : p < l.length) : (l.set p a).getD q [] = if p = q then a else l.getD q [] := by
  rw [List.getD_eq_getElem?_getD, List.getElem?_set]
  by_cases e : p = q
  · rw [if_pos e, if_pos e, if_pos h]
    rfl
  · rw [if_neg e, if_neg e, List.getD_eq_getElem?_getD]
theorem iv_step {ns done : List Nat} {st : List (List Nat) × Option (List Nat)} {p : Nat} (h : Iv ns done st) (hp : p < ns.length) (nd : p ∉ done) (h12 : ns.getD p 0 ≤ 12) (hs : ∀ w, st.2 = some w → w.length ≤ ns.getD p 0 ∧ ∃ i, lastOne w = some i) : Iv ns (p :: done) (stepW ns st p) ∧ ∀ w, (stepW ns st p).2 = some w → w.length = ns.getD p 0 := by
  obtain ⟨a, ea, ba, la, sa⟩ : ∃ a, stepW ns st p = (st.1.set p a, some a) ∧ Bits a ∧ a.length = ns.getD p 0 ∧ lo a + wt (ns.getD p 0) + sumW ns done = 4096 := by
    cases e : st.2 with
    | none =>
      have n := new_word (u := []) (v := 1) (n := ns.getD p 0) (fun c hc => nomatch hc) (Nat.zero_le _) h12 rfl
      refine ⟨_, by unfold stepW; rw [e], n.1, n.2.1, ?_⟩
      rw [h.no e, n.2.2]
      rfl
    | some w =>
      obtain ⟨hl, i, hi⟩ := hs w e
      obtain ⟨b1, b2, b3⟩ := h.last w e
      obtain ⟨c1, c2, c3⟩ := less_val b1 hi
      have n := new_word (u := lessW w) (v := bitsVal w) (n := ns.getD p 0) c1 (by omega) h12 c3
      refine ⟨_, by unfold stepW; rw [e], n.1, n.2.1, ?_⟩
      rw [n.2.2, c2]
      exact b3
  have sc : sumW ns (p :: done) = wt (ns.getD p 0) + sumW ns done := by
    unfold sumW
    rw [List.map_cons, List.sum_cons]
  have g : ∀ q, (st.1.set p a).getD q [] = if p = q then a else st.1.getD q [] := fun q => getD_set (by rw [h.len]; exact hp)
  rw [ea]
  refine ⟨⟨by rw [List.length_set]; exact h.len, (fun z => nomatch z), fun w hw => ?_, fun q hq => ?_, fun q hq r hr ne => ?_⟩, fun w hw => ?_⟩
  · cases hw
    exact ⟨ba, by omega, by rw [sc]; omega⟩
  · rw [g, sc]
    by_cases e : p = q
    · rw [if_pos e, ← e]
      exact ⟨ba, la, by omega⟩
    · rw [if_neg e]
      rcases List.mem_cons.mp hq with z | z
      · exact absurd z.symm e
      · have := h.each q z
        exact ⟨this.1, this.2.1, by omega⟩
  · show Ap ((st.1.set p a).getD q []) ((st.1.set p a).getD r [])
    rw [g, g]
    by_cases e : p = q
    · rw [if_pos e, if_neg (by omega)]
      rcases List.mem_cons.mp hr with z | z
      · omega
      · have := (h.each r z).2.2
        exact .inl (by rw [la]; omega)
    · rw [if_neg e]
      by_cases e2 : p = r
      · rw [if_pos e2]
        rcases List.mem_cons.mp hq with z | z
        · omega
        · have := (h.each q z).2.2
          exact .inr (by rw [la]; omega)
      · rw [if_neg e2]
        rcases List.mem_cons.mp hq with z | z
        · omega
        · rcases List.mem_cons.mp hr with y | y
          · omega
          · exact h.apart q z r y ne
  · cases hw
    exact la
theorem wt_pos (n : Nat) : 0 < wt n := Nat.pow_pos (by decide)
theorem iv_run {ns : List Nat} : ∀ (rest done : List Nat) (st : List (List Nat) × Option (List Nat)), Iv ns done st → rest.Nodup → (∀ p ∈ rest, p < ns.length ∧ p ∉ done ∧ ns.getD p 0 ≤ 12) → rest.Pairwise (fun p q => ns.getD p 0 ≤ ns.getD q 0) → (∀ w, st.2 = some w → ∀ p ∈ rest, w.length ≤ ns.getD p 0) →
    (okW ns rest st = true → Iv ns (rest.reverse ++ done) (rest.foldl (stepW ns) st)) ∧ (okW ns rest st = false → 4096 < sumW ns done + sumW ns rest)
  | [], done, st, h, _, _, _, _ => ⟨fun _ => h, fun z => nomatch z⟩
  | p :: r, done, st, h, nd, hp, so, hl => by
    have n1 := List.nodup_cons.mp nd
    have s1 := List.pairwise_cons.mp so
    have p1 := hp p (List.mem_cons_self ..)
    have sr : sumW ns (p :: r) = wt (ns.getD p 0) + sumW ns r := by
      unfold sumW
      rw [List.map_cons, List.sum_cons]
    by_cases ok : ∀ w, st.2 = some w → ∃ i, lastOne w = some i
    · have okr : okW ns (p :: r) st = okW ns r (stepW ns st p) := by
        show ((match st.2 with | none => true | some w => (lastOne w).isSome) && okW ns r (stepW ns st p)) = _
        cases e : st.2 with
        | none => rfl
        | some w =>
          obtain ⟨i, hi⟩ := ok w e
          show ((lastOne w).isSome && _) = _
          rw [hi]
          rfl
      obtain ⟨st1, st2⟩ := iv_step h p1.1 p1.2.1 p1.2.2 fun w hw => ⟨hl w hw p (List.mem_cons_self ..), ok w hw⟩
      have ih := iv_run r (p :: done) (stepW ns st p) st1 n1.2 (fun q hq => ?_) s1.2 (fun w hw q hq => ?_)
      · rw [okr]
        refine ⟨fun z => ?_, fun z => ?_⟩
        · have := ih.1 z
          rw [List.reverse_cons, List.append_assoc]
          exact this
        · have := ih.2 z
          have sc : sumW ns (p :: done) = wt (ns.getD p 0) + sumW ns done := by
            unfold sumW
            rw [List.map_cons, List.sum_cons]
          omega
      · have := hp q (List.mem_cons_of_mem _ hq)
        refine ⟨this.1, fun z => ?_, this.2.2⟩
        rcases List.mem_cons.mp z with y | y
        · exact n1.1 (y ▸ hq)
        · exact this.2.1 y
      · rw [st2 w hw]
        exact s1.1 q hq
    · obtain ⟨w, hw, no⟩ : ∃ w, st.2 = some w ∧ ¬ ∃ i, lastOne w = some i := by
        cases e : st.2 with
        | none => exact absurd (fun w hw => nomatch e.symm.trans hw) ok
        | some w => exact ⟨w, rfl, fun z => ok fun u hu => by rw [e] at hu; cases hu; exact z⟩
      have hz : lastOne w = none := by
        cases e : lastOne w with
        | none => rfl
        | some i => exact absurd ⟨i, e⟩ no
      have okf : okW ns (p :: r) st = false := by
        show ((match st.2 with | none => true | some w => (lastOne w).isSome) && okW ns r (stepW ns st p)) = false
        rw [hw]
        show ((lastOne w).isSome && _) = false
        rw [hz]
        rfl
      rw [okf]
      refine ⟨(fun z => nomatch z), fun _ => ?_⟩
      have l0 : lo w = 0 := by
        rcases lastOne_spec w with ⟨_, h2⟩ | ⟨i, e, _⟩
        · unfold lo
          rw [val_none h2, Nat.zero_mul]
        · exact absurd ⟨i, e⟩ no
      have := (h.last w hw).2.2
      have := wt_pos (ns.getD p 0)
      omega
theorem prefix_lo {u v : List Nat} (hv : v.length ≤ 12) (h : v.take u.length = u) : lo u ≤ lo v ∧ lo v < lo u + wt u.length := by
  have ll : u.length ≤ v.length := by
    have := congrArg List.length h
    rw [List.length_take] at this
    omega
  have ev : v = u ++ v.drop u.length := by
    conv => lhs; rw [← List.take_append_drop u.length v]
    rw [h]
  have e1 : bitsVal v = bitsVal u * 2 ^ (v.length - u.length) + bitsVal (v.drop u.length) := by
    conv => lhs; rw [ev]
    rw [val_app, List.length_drop]
  have e2 := val_lt (v.drop u.length)
  rw [List.length_drop] at e2
  have e3 : wt u.length = 2 ^ (v.length - u.length) * wt v.length := by
    unfold wt
    rw [← Nat.pow_add]
    congr 1
    omega
  unfold lo
  rw [e1, e3, Nat.add_mul, Nat.mul_assoc]
  have := wt_pos v.length
  refine ⟨Nat.le_add_right _ _, Nat.add_lt_add_left ?_ _⟩
  exact Nat.mul_lt_mul_of_pos_right e2 this
theorem ap_no {u v : List Nat} (hv : v.length ≤ 12) (h : Ap u v) : v.take u.length ≠ u := fun e => by
  have := prefix_lo hv e
  have := wt_pos v.length
  rcases h with z | z <;> omega
theorem sum_range (ns : List Nat) : sumW ns (List.range ns.length) = (ns.map wt).sum := by
  unfold sumW
  congr 1
  apply List.ext_getElem?
  intro i
  rw [List.getElem?_map, List.getElem?_map]
  by_cases h : i < ns.length
  · rw [List.getElem?_range h, List.getElem?_eq_getElem h, Option.map_some, Option.map_some, List.getD_eq_getElem?_getD, List.getElem?_eq_getElem h]
    rfl
  · rw [List.getElem?_eq_none (by rw [List.length_range]; omega), List.getElem?_eq_none (by omega)]
    rfl
theorem iv_getD (ns : List Nat) (p : Nat) : (iv ns).getD p 0 = ((ns.getD p 0 : Nat) : Int) := by
  unfold iv
  rw [List.getD_eq_getElem?_getD, List.getElem?_map, List.getD_eq_getElem?_getD]
  cases ns[p]? <;> rfl
/-- the whole: refused where the parts are too many; else the words fit and stand apart -/
theorem words_whole {ns : List Nat} (hn : ∀ n ∈ ns, n ≤ 12) :
    (okW ns (buckets (fun i => (iv ns).getD i 0) ns.length) (startW ns) = false → 4096 < (ns.map wt).sum) ∧
    (okW ns (buckets (fun i => (iv ns).getD i 0) ns.length) (startW ns) = true → (ns.map wt).sum ≤ 4096 ∧ (wordsOf ns).length = ns.length ∧ (∀ p, p < ns.length → Bits ((wordsOf ns).getD p []) ∧ ((wordsOf ns).getD p []).length = ns.getD p 0) ∧
      ∀ p q, p < ns.length → q < ns.length → p ≠ q → ((wordsOf ns).getD q []).take ((wordsOf ns).getD p []).length ≠ (wordsOf ns).getD p []) := by
  have ho := order_iv hn
  have perm : (orderOf (iv ns)).Perm (List.range ns.length) := by
    unfold orderOf
    rw [iv_len]
    exact List.mergeSort_perm ..
  have srt : (orderOf (iv ns)).Pairwise (fun p q => ns.getD p 0 ≤ ns.getD q 0) := by
    have tr : ∀ a b c : Nat, leK (fun i => (iv ns).getD i 0) a b = true → leK (fun i => (iv ns).getD i 0) b c = true → leK (fun i => (iv ns).getD i 0) a c = true := fun a b c h1 h2 => by
      unfold leK at *
      have := of_decide_eq_true h1
      have := of_decide_eq_true h2
      exact decide_eq_true (by omega)
    have to : ∀ a b : Nat, (leK (fun i => (iv ns).getD i 0) a b || leK (fun i => (iv ns).getD i 0) b a) = true := fun a b => by
      unfold leK
      rw [Bool.or_eq_true, decide_eq_true_eq, decide_eq_true_eq]
      omega
    have := List.pairwise_mergeSort tr to (List.range (iv ns).length)
    refine List.Pairwise.imp (fun {a b} h => ?_) this
    have h2 := of_decide_eq_true h
    have h3 : (iv ns).getD a 0 ≤ (iv ns).getD b 0 := h2
    rw [iv_getD, iv_getD] at h3
    omega
  rw [← ho]
  have hg : ∀ p, ns.getD p 0 ≤ 12 := fun p => by
    rw [List.getD_eq_getElem?_getD]
    cases e : ns[p]? with
    | none => exact Nat.zero_le _
    | some n => exact hn n (List.mem_of_getElem? e)
  have main := iv_run (ns := ns) (orderOf (iv ns)) [] (startW ns) (iv_start ns) (perm.nodup_iff.mpr List.nodup_range) (fun p hp => ⟨List.mem_range.mp (perm.mem_iff.mp hp), (fun z => nomatch z), hg p⟩) srt (fun w hw => nomatch hw)
  have es : sumW ns (orderOf (iv ns)) = (ns.map wt).sum := by
    rw [← sum_range]
    unfold sumW
    exact (perm.map _).sum_nat
  refine ⟨fun z => ?_, fun z => ?_⟩
  · have := main.2 z
    rw [es] at this
    have s0 : sumW ns [] = 0 := rfl
    omega
  · have I := main.1 z
    have hw : ((orderOf (iv ns)).foldl (stepW ns) (startW ns)).1 = wordsOf ns := by
      unfold wordsOf
      rw [ho]
    have sr : sumW ns ((orderOf (iv ns)).reverse ++ []) = (ns.map wt).sum := by
      rw [← es, List.append_nil]
      unfold sumW
      exact ((List.reverse_perm _).map _).sum_nat
    have mem : ∀ p, p < ns.length → p ∈ (orderOf (iv ns)).reverse ++ [] := fun p hp => by
      rw [List.append_nil, List.mem_reverse]
      exact perm.mem_iff.mpr (List.mem_range.mpr hp)
    refine ⟨?_, by rw [← hw]; exact I.len, fun p hp => ?_, fun p q hp hq ne => ?_⟩
    · rw [← sr]
      cases e : ((orderOf (iv ns)).foldl (stepW ns) (startW ns)).2 with
      | none =>
        rw [I.no e]
        exact Nat.zero_le _
      | some w =>
        have := (I.last w e).2.2
        omega
    · rw [← hw]
      have := I.each p (mem p hp)
      exact ⟨this.1, this.2.1⟩
    · rw [← hw]
      have l := (I.each q (mem q hq)).2.1
      exact ap_no (by rw [l]; exact hg q) (I.apart p (mem p hp) q (mem q hq) ne)
theorem okW_snoc {ns : List Nat} (p : Nat) : ∀ (l : List Nat) (st : List (List Nat) × Option (List Nat)), okW ns l st = true → (∀ w, (l.foldl (stepW ns) st).2 = some w → ∃ i, lastOne w = some i) → okW ns (l ++ [p]) st = true
  | [], st, _, h => by
    show ((match st.2 with | none => true | some w => (lastOne w).isSome) && true) = true
    cases e : st.2 with
    | none => rfl
    | some w =>
      obtain ⟨i, hi⟩ := h w e
      show ((lastOne w).isSome && true) = true
      rw [hi]
      rfl
  | q :: r, st, ok, h => by
    have ok : ((match st.2 with | none => true | some w => (lastOne w).isSome) && okW ns r (stepW ns st q)) = true := ok
    rw [Bool.and_eq_true] at ok
    show ((match st.2 with | none => true | some w => (lastOne w).isSome) && okW ns (r ++ [p]) (stepW ns st q)) = true
    rw [Bool.and_eq_true]
    exact ⟨ok.1, okW_snoc p r _ ok.2 h⟩
end Fp

set_option Elab.async false
set_option linter.all false
set_option maxRecDepth 100000
set_option maxHeartbeats 4000000
/-! The first place of a sign in a text; the runs of a row. -/
namespace Fp
open PySem L2 PyProof.Rows
def oth (c : Nat) : Nat := if c = 46 then 35 else 46
theorem oth_46 : oth 46 = 35 := rfl
theorem oth_35 : oth 35 = 46 := rfl
theorem oth_cell (c : Nat) : Cell (oth c) := by
  unfold oth
  split
  · exact .inr rfl
  · exact .inl rfl
theorem oth_ne {c : Nat} (h : Cell c) : oth c ≠ c := by
  rcases h with rfl | rfl <;> decide
theorem oth_oth {c : Nat} (h : Cell c) : oth (oth c) = c := by
  rcases h with rfl | rfl <;> rfl
theorem cell_ne {c x : Nat} (hc : Cell c) (hx : Cell x) (n : x ≠ oth c) : x = c := by
  rcases hc with rfl | rfl <;> rcases hx with rfl | rfl <;> first | rfl | exact absurd rfl n
/-- the first place of c in l, from s on; l's end where there is none -/
def fp (l : List Nat) (c s : Nat) : Nat := if s ≤ l.length then s + ((l.drop s).takeWhile (fun x => decide (x ≠ c))).length else l.length
theorem tw_spec (c : Nat) : ∀ l : List Nat, (∀ v, v < (l.takeWhile (fun x => decide (x ≠ c))).length → l[v]? ≠ some c) ∧ (l.takeWhile (fun x => decide (x ≠ c))).length ≤ l.length ∧ ((l.takeWhile (fun x => decide (x ≠ c))).length < l.length → l[(l.takeWhile (fun x => decide (x ≠ c))).length]? = some c)
  | [] => ⟨fun v h => by simp at h, by simp, fun h => by simp at h⟩
  | x :: r => by
    obtain ⟨h1, h2, h3⟩ := tw_spec c r
    by_cases e : x = c
    · subst e
      have z : (x :: r).takeWhile (fun y => decide (y ≠ x)) = [] := by
        rw [List.takeWhile_cons]
        simp
      rw [z]
      exact ⟨fun v h => by simp at h, by simp, fun _ => rfl⟩
    · have z : (x :: r).takeWhile (fun y => decide (y ≠ c)) = x :: r.takeWhile (fun y => decide (y ≠ c)) := by
        rw [List.takeWhile_cons]
        simp [e]
      rw [z]
      refine ⟨fun v h => ?_, ?_, fun h => ?_⟩
      · cases v with
        | zero => exact fun q => e (Option.some.inj q)
        | succ v =>
          have h' : v < (r.takeWhile (fun y => decide (y ≠ c))).length := by
            rw [List.length_cons] at h
            omega
          exact h1 v h'
      · rw [List.length_cons, List.length_cons]
        omega
      · rw [List.length_cons, List.length_cons] at h
        rw [List.length_cons, List.getElem?_cons_succ]
        exact h3 (by omega)
theorem fp_spec {l : List Nat} {c s : Nat} (h : s ≤ l.length) : s ≤ fp l c s ∧ fp l c s ≤ l.length ∧ (∀ v, s ≤ v → v < fp l c s → l[v]? ≠ some c) ∧ (fp l c s < l.length → l[fp l c s]? = some c) := by
  obtain ⟨h1, h2, h3⟩ := tw_spec c (l.drop s)
  unfold fp
  rw [if_pos h]
  rw [List.length_drop] at h2 h3
  refine ⟨by omega, by omega, fun v a b => ?_, fun b => ?_⟩
  · have := h1 (v - s) (by omega)
    rw [List.getElem?_drop, show s + (v - s) = v by omega] at this
    exact this
  · have := h3 (by omega)
    rw [List.getElem?_drop] at this
    exact this
theorem fp_uniq {l : List Nat} {c s k : Nat} (h : s ≤ l.length) (h1 : s ≤ k) (h2 : k ≤ l.length) (h3 : ∀ v, s ≤ v → v < k → l[v]? ≠ some c) (h4 : k < l.length → l[k]? = some c) : fp l c s = k := by
  obtain ⟨a1, a2, a3, a4⟩ := fp_spec (c := c) h
  by_cases e1 : fp l c s < k
  · exact absurd (a4 (by omega)) (h3 _ a1 e1)
  · by_cases e2 : k < fp l c s
    · exact absurd (h4 (by omega)) (a3 _ h1 e2)
    · omega
theorem fp_le (l : List Nat) (c s : Nat) : fp l c s ≤ l.length := by
  by_cases h : s ≤ l.length
  · exact (fp_spec h).2.1
  · unfold fp
    rw [if_neg h]
    exact Nat.le_refl _
theorem sOf_getD (l : List Nat) (v : Nat) : (sOf l).cps.getD v 0 = (l[v]?).getD 0 := by
  show (l.toArray).getD v 0 = _
  simp [Array.getD]
  by_cases h : v < l.length
  · rw [dif_pos h, List.getElem?_eq_getElem h]
    rfl
  · rw [dif_neg h, List.getElem?_eq_none (by omega)]
    rfl
/-- find, and what first_place makes of it -/
theorem find3_fp (l : List Nat) (c s : Nat) : (Txt.find3 (sOf l) (sOf [c]) (s : Int) < 0 ∧ fp l c s = l.length) ∨ (Txt.find3 (sOf l) (sOf [c]) (s : Int) = (fp l c s : Int)) := by
  have e : PySem.fromIndex (sOf l).length (s : Int) = s := by
    unfold PySem.fromIndex
    rw [if_neg (by omega)]
    omega
  rcases StrLaws.find3_spec (sOf l) c (s : Int) with ⟨h1, h2⟩ | ⟨k, h1, h2, h3, h4, h5⟩
  · left
    refine ⟨by rw [show sOf [c] = ⟨#[c]⟩ from rfl, h1]; decide, ?_⟩
    by_cases h : s ≤ l.length
    · refine fp_uniq h h (Nat.le_refl _) (fun v a b => ?_) (fun z => absurd z (Nat.lt_irrefl _))
      have := h2 v (by rw [e]; exact a) (by rw [sOf_len]; exact b)
      rw [sOf_getD, List.getElem?_eq_getElem b] at this
      rw [List.getElem?_eq_getElem b]
      exact fun q => this (Option.some.inj q)
    · unfold fp
      rw [if_neg h]
  · right
    rw [e] at h2 h5
    rw [sOf_len] at h3
    rw [show sOf [c] = ⟨#[c]⟩ from rfl, h1]
    congr 1
    symm
    refine fp_uniq (by omega) h2 (by omega) (fun v a b => ?_) (fun _ => ?_)
    · have := h5 v a b
      have b' : v < l.length := by omega
      rw [sOf_getD, List.getElem?_eq_getElem b'] at this
      rw [List.getElem?_eq_getElem b']
      exact fun q => this (Option.some.inj q)
    · rw [sOf_getD, List.getElem?_eq_getElem h3] at h4
      rw [List.getElem?_eq_getElem h3]
      exact congrArg some h4
/-- the runs: what is left, the colour, how many of it stand ahead -/
def runsFrom : List Nat → Nat → Nat → List Nat
  | [], _, k => [k]
  | x :: r, c, k => if x = oth c then k :: runsFrom r (oth c) 1 else runsFrom r c (k + 1)
def runsL (l : List Nat) : List Nat := runsFrom l 46 0
theorem runsFrom_ne (l : List Nat) (c k : Nat) : runsFrom l c k ≠ [] := by
  induction l generalizing c k with
  | nil => exact fun h => by cases h
  | cons x r ih =>
    unfold runsFrom
    split
    · exact fun h => by cases h
    · exact ih c (k + 1)
theorem runsFrom_step (c : Nat) (hc : Cell c) : ∀ (l : List Nat) (k : Nat), runsFrom l c k = (k + (l.takeWhile (fun x => decide (x ≠ oth c))).length) :: (if l.drop (l.takeWhile (fun x => decide (x ≠ oth c))).length = [] then [] else runsFrom (l.drop (l.takeWhile (fun x => decide (x ≠ oth c))).length) (oth c) 0)
  | [], k => by simp [runsFrom]
  | x :: r, k => by
    by_cases e : x = oth c
    · have z : (x :: r).takeWhile (fun y => decide (y ≠ oth c)) = [] := by
        rw [List.takeWhile_cons]
        simp [e]
      rw [z]
      have n1 : oth c ≠ oth (oth c) := by
        rcases hc with rfl | rfl <;> decide
      rw [List.length_nil, List.drop_zero, if_neg (by simp)]
      conv => lhs; unfold runsFrom
      conv => rhs; rhs; unfold runsFrom
      rw [if_pos e, if_neg (by rw [e]; exact n1)]
      rfl
    · have z : (x :: r).takeWhile (fun y => decide (y ≠ oth c)) = x :: r.takeWhile (fun y => decide (y ≠ oth c)) := by
        rw [List.takeWhile_cons]
        simp [e]
      rw [z, List.length_cons, List.drop_succ_cons]
      conv => lhs; unfold runsFrom
      rw [if_neg e, runsFrom_step c hc r (k + 1)]
      congr 1
      omega
/-- a step of runs_of at a place -/
theorem runs_at {l : List Nat} {c p : Nat} (hc : Cell c) (hp : p ≤ l.length) : runsFrom (l.drop p) c 0 = (fp l (oth c) p - p) :: (if fp l (oth c) p = l.length then [] else runsFrom (l.drop (fp l (oth c) p)) (oth c) 0) := by
  rw [runsFrom_step c hc]
  have e : fp l (oth c) p = p + ((l.drop p).takeWhile (fun x => decide (x ≠ oth c))).length := by
    unfold fp
    rw [if_pos hp]
  have le := fp_le l (oth c) p
  rw [List.drop_drop, ← e]
  congr 1
  · omega
  · have q : l.drop (fp l (oth c) p) = [] ↔ fp l (oth c) p = l.length := by
      rw [List.drop_eq_nil_iff]
      omega
    by_cases h : fp l (oth c) p = l.length
    · rw [if_pos (q.mpr h), if_pos h]
    · rw [if_neg (fun z => h (q.mp z)), if_neg h]
/-- runs put together -/
def unr : List Nat → Nat → List Nat
  | [], _ => []
  | k :: r, c => List.replicate k c ++ unr r (oth c)
theorem unr_runs {l : List Nat} (h : Row l) {c : Nat} (hc : Cell c) (k : Nat) : unr (runsFrom l c k) c = List.replicate k c ++ l := by
  induction l generalizing c k with
  | nil =>
    show List.replicate k c ++ [] = _
    rfl
  | cons x r ih =>
    have hr : Row r := fun y hy => h y (List.mem_cons_of_mem _ hy)
    unfold runsFrom
    split
    · rename_i e
      show List.replicate k c ++ unr (runsFrom r (oth c) 1) (oth c) = _
      rw [ih hr (oth_cell c), e]
      rfl
    · rename_i e
      rw [ih hr hc, cell_ne hc (h x (List.mem_cons_self ..)) e, List.replicate_succ', List.append_assoc]
      rfl
theorem runs_pos {l : List Nat} {c k : Nat} (hc : Cell c) : ∀ x ∈ (runsFrom l c k).drop 1, 0 < x := by
  have main : ∀ (l : List Nat) (c k : Nat), 0 < k → ∀ x ∈ runsFrom l c k, 0 < x := by
    intro l
    induction l with
    | nil =>
      intro c k hk x hx
      rw [List.mem_singleton.mp hx]
      exact hk
    | cons y r ih =>
      intro c k hk x hx
      unfold runsFrom at hx
      split at hx
      · rcases List.mem_cons.mp hx with e | e
        · rw [e]
          exact hk
        · exact ih _ _ (by decide) x e
      · exact ih _ _ (by omega) x hx
  induction l generalizing c k with
  | nil =>
    intro x hx
    cases hx
  | cons y r ih =>
    intro x hx
    unfold runsFrom at hx
    split at hx
    · exact main _ _ _ (by decide) x hx
    · exact ih hc x hx
theorem unr_len : ∀ (rs : List Nat) (c : Nat), (unr rs c).length = rs.sum
  | [], _ => rfl
  | k :: r, c => by
    show (List.replicate k c ++ unr r (oth c)).length = _
    rw [List.length_append, List.length_replicate, unr_len r, List.sum_cons]
theorem runs_sum {l : List Nat} (h : Row l) : (runsL l).sum = l.length := by
  rw [← unr_len (runsL l) 46]
  unfold runsL
  rw [unr_runs h (.inl rfl)]
  rfl
theorem le_sum {xs : List Nat} {x : Nat} (h : x ∈ xs) : x ≤ xs.sum := by
  induction xs with
  | nil => cases h
  | cons y r ih =>
    rw [List.sum_cons]
    rcases List.mem_cons.mp h with e | e
    · omega
    · have := ih e
      omega
theorem pos_sum : ∀ xs : List Nat, (∀ x ∈ xs, 0 < x) → xs.length ≤ xs.sum
  | [], _ => Nat.le_refl _
  | y :: r, h => by
    have h1 := pos_sum r fun x hx => h x (List.mem_cons_of_mem _ hx)
    have h2 := h y (List.mem_cons_self ..)
    rw [List.sum_cons, List.length_cons]
    omega
theorem runs_len {l : List Nat} (h : Row l) : (runsL l).length ≤ l.length + 1 := by
  have h1 := runs_pos (l := l) (k := 0) (c := 46) (.inl rfl)
  have h2 := pos_sum _ h1
  have h3 := runs_sum h
  unfold runsL at h3 ⊢
  cases e : runsFrom l 46 0 with
  | nil => simp
  | cons y r =>
    rw [e] at h2 h3
    rw [List.sum_cons] at h3
    simp only [List.drop_succ_cons, List.drop_zero] at h2
    rw [List.length_cons]
    omega
/-- the colour of the i-th run -/
def colr (c : Nat) : Nat → Nat
  | 0 => c
  | i + 1 => oth (colr c i)
theorem colr_succ (c : Nat) : ∀ i, colr (oth c) i = oth (colr c i)
  | 0 => rfl
  | i + 1 => by
    show oth (colr (oth c) i) = oth (oth (colr c i))
    rw [colr_succ c i]
theorem colr_mod : ∀ i : Nat, colr 46 i = if i % 2 = 0 then 46 else 35
  | 0 => rfl
  | i + 1 => by
    show oth (colr 46 i) = _
    rw [colr_mod i]
    by_cases h : i % 2 = 0
    · rw [if_pos h, if_neg (by omega)]
      rfl
    · rw [if_neg h, if_pos (by omega)]
      rfl
theorem unr_more : ∀ (rs : List Nat) (c i x : Nat), rs[i]? = some x → unr (rs.take (i + 1)) c = unr (rs.take i) c ++ List.replicate x (colr c i)
  | [], _, _, _, h => by cases h
  | y :: r, c, 0, x, h => by
    have : y = x := Option.some.inj h
    subst this
    show List.replicate y c ++ unr (r.take 0) (oth c) = [] ++ List.replicate y c
    rw [List.take_zero]
    show List.replicate y c ++ [] = _
    rw [List.append_nil, List.nil_append]
  | y :: r, c, i + 1, x, h => by
    show List.replicate y c ++ unr (r.take (i + 1)) (oth c) = (List.replicate y c ++ unr (r.take i) (oth c)) ++ List.replicate x (oth (colr c i))
    rw [unr_more r (oth c) i x h, colr_succ, List.append_assoc]
end Fp

set_option Elab.async false
set_option linter.all false
set_option maxRecDepth 100000
set_option maxHeartbeats 4000000
/-! Texts of bits: slices, numbers written by twos, spoils. -/
namespace Fp
open PySem L2 PyProof.Rows
theorem cutS_upto (l : List Nat) (b : Nat) : cutS (sOf l) none (some (b : Int)) = sOf (l.take b) := by
  unfold cutS
  rw [HT.sIx_nat, sOf_len, sOf_list, HT.sIx_none]
  show sOf ((l.drop 0).take (min b l.length - 0)) = _
  rw [List.drop_zero, Nat.sub_zero]
  congr 1
  by_cases h : b ≤ l.length
  · rw [Nat.min_eq_left h]
  · rw [Nat.min_eq_right (by omega), List.take_length, List.take_of_length_le (by omega)]
theorem cutS_from (l : List Nat) (a : Nat) : cutS (sOf l) (some (a : Int)) none = sOf (l.drop a) := by
  unfold cutS
  rw [HT.sIx_nat, sOf_len, sOf_list, HT.sIx_none]
  congr 1
  by_cases h : a ≤ l.length
  · rw [Nat.min_eq_left h]
    have q : (l.drop a).length ≤ l.length - a := by
      rw [List.length_drop]
      exact Nat.le_refl _
    exact congrArg _ (List.take_of_length_le q)
  · rw [Nat.min_eq_right (by omega), Nat.sub_self, List.take_zero, List.drop_eq_nil_of_le (by omega)]
/-! ### known tests -/
theorem iteD1 {p A B : Prop} [Decidable p] (h : p) (a : A) : if decide p = true then A else B := by
  rw [decide_eq_true h]
  exact iteT a
theorem iteD0 {p A B : Prop} [Decidable p] (h : ¬ p) (b : B) : if decide p = true then A else B := by
  rw [decide_eq_false h]
  exact iteF b
theorem iteN0 {p A B : Prop} [Decidable p] (h : p) (b : B) : if (!decide p) = true then A else B := by
  rw [decide_eq_true h]
  exact iteF b
theorem iteN1 {p A B : Prop} [Decidable p] (h : ¬ p) (a : A) : if (!decide p) = true then A else B := by
  rw [decide_eq_false h]
  exact iteT a
theorem vint {i j : Int} : (V.int i = V.int j) ↔ i = j := ⟨fun h => V.int.inj h, fun h => by rw [h]⟩
theorem vstr {l m : List Nat} : (V.str (sOf l) = V.str (sOf m)) ↔ l = m := ⟨fun h => sOf_inj (V.str.inj h), fun h => by rw [h]⟩
theorem vstr1 {c d : Nat} : (V.str (sOf [c]) = V.str (sOf [d])) ↔ c = d := vstr.trans ⟨fun h => by simpa using h, fun h => by rw [h]⟩
def bitN (i : Int) : Nat := if i = 0 then 48 else 49
theorem bitN_bit (i : Int) : bitN i = 48 ∨ bitN i = 49 := by
  unfold bitN
  split
  · exact .inl rfl
  · exact .inr rfl
theorem bit_at {i : Int} (h0 : 0 ≤ i) (h1 : i < 2) : atI (Str.ofString "01").cps.toList i = some (bitN i) := by
  have : i = 0 ∨ i = 1 := by omega
  rcases this with rfl | rfl <;> rfl
theorem two_len' : (Str.ofString "01").length ≤ sizeLine := by decide
theorem sOf_at {l : List Nat} {i c : Nat} (h : l[i]? = some c) : atI (sOf l).cps.toList (i : Int) = some c := by
  rw [sOf_list]
  exact atI_nat h
--PURE
/-! ### bits -/
def Bts (l : List Nat) : Prop := ∀ c ∈ l, c = 48 ∨ c = 49
theorem Bts.app {l m : List Nat} (h : Bts l) (k : Bts m) : Bts (l ++ m) := fun c hc => by
  rcases List.mem_append.mp hc with e | e
  · exact h c e
  · exact k c e
theorem Bts.nil : Bts [] := fun _ h => nomatch h
theorem Bts.take {l : List Nat} (h : Bts l) (n : Nat) : Bts (l.take n) := fun c hc => h c (List.mem_of_mem_take hc)
theorem Bts.drop {l : List Nat} (h : Bts l) (n : Nat) : Bts (l.drop n) := fun c hc => h c (List.mem_of_mem_drop hc)
theorem Bts.one {c : Nat} (h : c = 48 ∨ c = 49) : Bts [c] := fun x hx => by
  rw [List.mem_singleton.mp hx]
  exact h
theorem Bts.rep {n c : Nat} (hc : c = 48 ∨ c = 49) : Bts (List.replicate n c) := fun x hx => by
  rw [(List.mem_replicate.mp hx).2]
  exact hc
theorem Bts.at {l : List Nat} (h : Bts l) {i c : Nat} (e : l[i]? = some c) : c = 48 ∨ c = 49 := h c (List.mem_of_getElem? e)
/-- a number by twos, m signs -/
def wrB (n m : Nat) : List Nat := (List.range m).map fun j => 48 + n / 2 ^ (m - 1 - j) % 2
theorem wrB_len (n m : Nat) : (wrB n m).length = m := by
  unfold wrB
  rw [List.length_map, List.length_range]
theorem wrB_bts (n m : Nat) : Bts (wrB n m) := fun c hc => by
  unfold wrB at hc
  obtain ⟨j, _, rfl⟩ := List.mem_map.mp hc
  omega
/-! ### spoils -/
inductive Spl where
  | turn (n : Nat)
  | lose (n : Nat)
  | put (n b : Nat)
def flipB (c : Nat) : Nat := if c = 49 then 48 else 49
def once (l : List Nat) : Spl → List Nat
  | .put n b => if n ≤ l.length then l.take n ++ b :: l.drop n else l
  | .turn n => if n < l.length then l.take n ++ flipB ((l[n]?).getD 0) :: l.drop (n + 1) else l
  | .lose n => if n < l.length then l.take n ++ l.drop (n + 1) else l
def spoilL (l : List Nat) (sps : List Spl) : List Nat := sps.foldl once l
def plc : Spl → Nat
  | .put n _ => n
  | .turn n => n
  | .lose n => n
/-- what the sign x at the place i becomes -/
def stepA (sp : Spl) (i : Nat) : List Nat := match sp with
  | .put n b => if i = n then [b] else []
  | _ => []
def stepB (sp : Spl) (i x : Nat) : List Nat := match sp with
  | .put _ _ => [x]
  | .turn n => if i = n then [flipB x] else [x]
  | .lose n => if i = n then [] else [x]
/-- place by place -/
def walkS (sp : Spl) : List Nat → Nat → List Nat
  | [], i => stepA sp i
  | x :: r, i => stepA sp i ++ stepB sp i x ++ walkS sp r (i + 1)
theorem walk_past (sp : Spl) : ∀ (l : List Nat) (i : Nat), plc sp < i → walkS sp l i = l
  | [], i, h => by
    cases sp with
    | put n b => show (if i = n then [b] else []) = []; rw [if_neg (by show ¬ i = n; have : n < i := h; omega)]
    | turn n => rfl
    | lose n => rfl
  | x :: r, i, h => by
    have ih := walk_past sp r (i + 1) (by omega)
    unfold walkS
    rw [ih]
    cases sp with
    | put n b =>
      have : n < i := h
      show (if i = n then [b] else []) ++ [x] ++ r = x :: r
      rw [if_neg (by omega)]
      rfl
    | turn n =>
      have : n < i := h
      show [] ++ (if i = n then [flipB x] else [x]) ++ r = x :: r
      rw [if_neg (by omega)]
      rfl
    | lose n =>
      have : n < i := h
      show [] ++ (if i = n then [] else [x]) ++ r = x :: r
      rw [if_neg (by omega)]
      rfl
def shift (sp : Spl) (i : Nat) : Spl := match sp with
  | .put n b => .put (n - i) b
  | .turn n => .turn (n - i)
  | .lose n => .lose (n - i)
theorem walk_once (sp : Spl) : ∀ (l : List Nat) (i : Nat), i ≤ plc sp → walkS sp l i = once l (shift sp i)
  | [], i, h => by
    cases sp with
    | put n b =>
      have : i ≤ n := h
      show (if i = n then [b] else []) = if n - i ≤ 0 then [].take (n - i) ++ b :: [].drop (n - i) else []
      by_cases e : i = n
      · rw [if_pos e, if_pos (by omega)]
        simp
      · rw [if_neg e, if_neg (by omega)]
    | turn n => rfl
    | lose n => rfl
  | x :: r, i, h => by
    unfold walkS
    by_cases e : i = plc sp
    · rw [walk_past sp r (i + 1) (by omega)]
      cases sp with
      | put n b =>
        have e : i = n := e
        subst e
        show (if i = i then [b] else []) ++ [x] ++ r = if i - i ≤ (x :: r).length then (x :: r).take (i - i) ++ b :: (x :: r).drop (i - i) else x :: r
        rw [if_pos rfl, Nat.sub_self, if_pos (Nat.zero_le _)]
        rfl
      | turn n =>
        have e : i = n := e
        subst e
        show [] ++ (if i = i then [flipB x] else [x]) ++ r = if i - i < (x :: r).length then (x :: r).take (i - i) ++ flipB (((x :: r)[i - i]?).getD 0) :: (x :: r).drop (i - i + 1) else x :: r
        rw [if_pos rfl, Nat.sub_self, if_pos (by rw [List.length_cons]; exact Nat.succ_pos _)]
        rfl
      | lose n =>
        have e : i = n := e
        subst e
        show [] ++ (if i = i then [] else [x]) ++ r = if i - i < (x :: r).length then (x :: r).take (i - i) ++ (x :: r).drop (i - i + 1) else x :: r
        rw [if_pos rfl, Nat.sub_self, if_pos (by rw [List.length_cons]; exact Nat.succ_pos _)]
        rfl
    · have lt : i + 1 ≤ plc sp := by omega
      rw [walk_once sp r (i + 1) lt]
      cases sp with
      | put n b =>
        have lt : i + 1 ≤ n := lt
        obtain ⟨k, rfl⟩ : ∃ k, n = i + 1 + k := ⟨n - (i + 1), by omega⟩
        show (if i = i + 1 + k then [b] else []) ++ [x] ++ (if i + 1 + k - (i + 1) ≤ r.length then r.take (i + 1 + k - (i + 1)) ++ b :: r.drop (i + 1 + k - (i + 1)) else r) = if i + 1 + k - i ≤ (x :: r).length then (x :: r).take (i + 1 + k - i) ++ b :: (x :: r).drop (i + 1 + k - i) else x :: r
        rw [if_neg (by omega), show i + 1 + k - (i + 1) = k by omega, show i + 1 + k - i = k + 1 by omega, List.length_cons]
        by_cases q : k ≤ r.length
        · rw [if_pos q, if_pos (by omega)]
          rfl
        · rw [if_neg q, if_neg (by omega)]
          rfl
      | turn n =>
        have lt : i + 1 ≤ n := lt
        obtain ⟨k, rfl⟩ : ∃ k, n = i + 1 + k := ⟨n - (i + 1), by omega⟩
        show [] ++ (if i = i + 1 + k then [flipB x] else [x]) ++ (if i + 1 + k - (i + 1) < r.length then r.take (i + 1 + k - (i + 1)) ++ flipB ((r[i + 1 + k - (i + 1)]?).getD 0) :: r.drop (i + 1 + k - (i + 1) + 1) else r) = if i + 1 + k - i < (x :: r).length then (x :: r).take (i + 1 + k - i) ++ flipB (((x :: r)[i + 1 + k - i]?).getD 0) :: (x :: r).drop (i + 1 + k - i + 1) else x :: r
        rw [if_neg (by omega), show i + 1 + k - (i + 1) = k by omega, show i + 1 + k - i = k + 1 by omega, List.length_cons]
        by_cases q : k < r.length
        · rw [if_pos q, if_pos (by omega)]
          rfl
        · rw [if_neg q, if_neg (by omega)]
          rfl
      | lose n =>
        have lt : i + 1 ≤ n := lt
        obtain ⟨k, rfl⟩ : ∃ k, n = i + 1 + k := ⟨n - (i + 1), by omega⟩
        show [] ++ (if i = i + 1 + k then [] else [x]) ++ (if i + 1 + k - (i + 1) < r.length then r.take (i + 1 + k - (i + 1)) ++ r.drop (i + 1 + k - (i + 1) + 1) else r) = if i + 1 + k - i < (x :: r).length then (x :: r).take (i + 1 + k - i) ++ (x :: r).drop (i + 1 + k - i + 1) else x :: r
        rw [if_neg (by omega), show i + 1 + k - (i + 1) = k by omega, show i + 1 + k - i = k + 1 by omega, List.length_cons]
        by_cases q : k < r.length
        · rw [if_pos q, if_pos (by omega)]
          rfl
        · rw [if_neg q, if_neg (by omega)]
          rfl
theorem walk_is (sp : Spl) (l : List Nat) : walkS sp l 0 = once l sp := by
  rw [walk_once sp l 0 (Nat.zero_le _)]
  cases sp <;> rfl
theorem once_len (l : List Nat) (sp : Spl) : (once l sp).length ≤ l.length + 1 := by
  cases sp with
  | put n b =>
    show (if n ≤ l.length then l.take n ++ b :: l.drop n else l).length ≤ _
    split
    · rw [List.length_append, List.length_cons, List.length_take, List.length_drop]
      omega
    · omega
  | turn n =>
    show (if n < l.length then l.take n ++ flipB ((l[n]?).getD 0) :: l.drop (n + 1) else l).length ≤ _
    split
    · rw [List.length_append, List.length_cons, List.length_take, List.length_drop]
      omega
    · omega
  | lose n =>
    show (if n < l.length then l.take n ++ l.drop (n + 1) else l).length ≤ _
    split
    · rw [List.length_append, List.length_take, List.length_drop]
      omega
    · omega
def BitS : Spl → Prop
  | .put _ b => b = 48 ∨ b = 49
  | _ => True
theorem flipB_bit (c : Nat) : flipB c = 48 ∨ flipB c = 49 := by
  unfold flipB
  split
  · exact .inl rfl
  · exact .inr rfl
theorem once_bts {l : List Nat} {sp : Spl} (h : Bts l) (hs : BitS sp) : Bts (once l sp) := by
  cases sp with
  | put n b =>
    show Bts (if n ≤ l.length then l.take n ++ b :: l.drop n else l)
    split
    · exact (h.take n).app (fun c hc => by
        rcases List.mem_cons.mp hc with e | e
        · rw [e]; exact hs
        · exact h.drop n c e)
    · exact h
  | turn n =>
    show Bts (if n < l.length then l.take n ++ flipB ((l[n]?).getD 0) :: l.drop (n + 1) else l)
    split
    · exact (h.take n).app (fun c hc => by
        rcases List.mem_cons.mp hc with e | e
        · rw [e]; exact flipB_bit _
        · exact h.drop _ c e)
    · exact h
  | lose n =>
    show Bts (if n < l.length then l.take n ++ l.drop (n + 1) else l)
    split
    · exact (h.take n).app (h.drop _)
    · exact h
end Fp

set_option Elab.async false
set_option linter.all false
set_option maxRecDepth 100000
set_option maxHeartbeats 4000000
/-! The laws' bags of four numbers; texts times an int. -/
namespace Fp
open PySem L2 PyProof.Rows
def Bag4 (H : Hp) (b : Addr) : Prop := ∃ g s p k : Int, H b = some (.lst [.int g, .int s, .int p, .int k]) ∧ 0 ≤ g ∧ 0 ≤ s ∧ s < 2147483648 ∧ 0 < p ∧ p < 2147483648
def Bx4 (b : Addr) (H H' : Hp) : Prop := Bag4 H' b ∧ ∀ a o, a ≠ b → H a = some o → H' a = some o
theorem Bx4.refl {b : Addr} {H : Hp} (h : Bag4 H b) : Bx4 b H H := ⟨h, fun _ _ _ e => e⟩
theorem Bx4.trans {b : Addr} {H H1 H2 : Hp} (x : Bx4 b H H1) (y : Bx4 b H1 H2) : Bx4 b H H2 := ⟨y.1, fun a o n e => y.2 a o n (x.2 a o n e)⟩
theorem Bx4.drawn {b : Addr} {H : Hp} {g s p k : Int} (g0 : 0 ≤ g) (s0 : 0 ≤ s) (s1 : s < 2147483648) (p0 : 0 < p) (p1 : p < 2147483648) : Bx4 b H (upd H b (.lst [.int g, .int s, .int p, .int k])) := ⟨⟨g, s, p, k, upd_same, g0, s0, s1, p0, p1⟩, fun a o n e => by
  rw [upd_ne n]
  exact e⟩
theorem Bx4.same {b : Addr} {H H1 H2 : Hp} (x : Bx4 b H H1) (y : Same H1 H2) : Bx4 b H H2 := by
  obtain ⟨⟨g, s, p, k, h, r⟩, m⟩ := x
  exact ⟨⟨g, s, p, k, y _ _ h, r⟩, fun a o n e => y _ _ (m a o n e)⟩
theorem Bx4.back {b : Addr} {H0 H H' : Hp} (x : Bx4 b H H') (y : Same H0 H) (n : H0 b = none) : Same H0 H' := fun a o e => x.2 a o (ne_of_none e n) (y a o e)
theorem Bx4.mut {b p : Addr} {H H' : Hp} {o : HO} (x : Bx4 b H H') (hp : H p = none) (n : p ≠ b) : Bx4 b H (upd H' p o) := by
  obtain ⟨⟨g, s, r, k, h, c⟩, m⟩ := x
  refine ⟨⟨g, s, r, k, by rw [upd_ne n.symm]; exact h, c⟩, fun a u z e => ?_⟩
  rw [upd_ne (ne_of_none e hp)]
  exact m a u z e
theorem Bag4.ne {H : Hp} {b p : Addr} (h : Bag4 H b) (n : H p = none) : p ≠ b := by
  obtain ⟨g, s, r, k, e, _⟩ := h
  exact (ne_of_none e n).symm
theorem Bx4.free {b p : Addr} {H H' : Hp} (x : Bx4 b H H') (h : H' p = none) : H p = none := by
  have n : p ≠ b := x.1.ne h
  cases q : H p with
  | none => rfl
  | some o =>
    rw [x.2 p o n q] at h
    cases h
theorem Bag4.tup {H : Hp} {b a : Addr} {xs : List V} (h : Bag4 H b) (e : H a = some (.tup xs)) : a ≠ b := fun z => by
  obtain ⟨g, s, r, k, e2, _⟩ := h
  rw [z, e2] at e
  cases e
theorem mul_list (l : List Nat) (n : Int) (h : 0 ≤ n) : Txt.mul (sOf l) n = sOf (List.replicate n.toNat l).flatten := by
  obtain ⟨k, rfl⟩ := Int.eq_ofNat_of_zero_le h
  apply of_list
  unfold Txt.mul
  have main : ∀ (k : Nat) (acc : Array Nat), (List.foldl (· ++ ·) acc (List.replicate k (sOf l).cps)).toList = acc.toList ++ (List.replicate k l).flatten := by
    intro k
    induction k with
    | zero => intro acc; simp
    | succ k ih =>
      intro acc
      rw [List.replicate_succ, List.foldl_cons, ih, List.replicate_succ, List.flatten_cons]
      simp [sOf]
  split
  · have : k = 0 := by omega
    subst this
    rfl
  · split
    · rename_i _ e
      rw [sOf_list, Int.toNat_natCast]
      simp only [Bool.or_eq_true, beq_iff_eq] at e
      rcases e with e | e
      · have : k = 1 := by omega
        subst this
        simp
      · rw [sOf_len] at e
        have : l = [] := List.length_eq_zero_iff.mp e
        subst this
        simp
    · rw [Int.toNat_natCast]
      have := main k #[]
      simpa using this
section
variable {X : Cx}
theorem op_mulT : OpR X (binaryOp .Mult) (fun x y H Q => ∃ (l : List Nat) (n : Int), x = .str (sOf l) ∧ y = .int n ∧ (0 ≤ n ∧ n ≤ 10000 ∧ l.length ≤ 1000) ∧ Q (.str (sOf (List.replicate n.toNat l).flatten)) H) := by
  intro pins s σ H x y v u Q I rx ry h
  obtain ⟨l, n, rfl, rfl, hz, q⟩ := h
  obtain ⟨t, rfl⟩ := rx
  obtain ⟨t', rfl⟩ := ry
  refine SB.mul (mulOk_of 1000 10000 (by rw [sOf_len]; exact hz.2.2) (by omega) (by omega) (by decide) (by decide)) fun t' k => ?_
  rw [mul_list l n hz.1]
  exact ⟨.str _, H, I.tok _, ⟨_, rfl⟩, q⟩
end
theorem flat_len {l : List Nat} (n : Nat) : (List.replicate n l).flatten.length = n * l.length := by
  induction n with
  | zero => simp
  | succ k ih => rw [List.replicate_succ, List.flatten_cons, List.length_append, ih, Nat.succ_mul]; omega
theorem flat_bts {l : List Nat} (h : Bts l) (n : Nat) : Bts (List.replicate n l).flatten := fun c hc => by
  obtain ⟨m, hm, hc⟩ := List.mem_flatten.mp hc
  rw [(List.mem_replicate.mp hm).2] at hc
  exact h c hc
theorem str_bit (k : Nat) (h : k < 2) : (toString ((k : Nat) : Int) : Str) = sOf [48 + k] := by
  have : k = 0 ∨ k = 1 := by omega
  rcases this with rfl | rfl <;> decide +kernel
/-- texts joined by nothing -/
theorem join_flat : ∀ ls : List (List Nat), Txt.join (Str.ofString "") (ls.map sOf) = sOf ls.flatten := by
  intro ls
  show Builtin.Str.glued (Str.ofString "") (ls.map sOf) = sOf ls.flatten
  rw [StrLaws.glued_eq_join]
  induction ls with
  | nil => rfl
  | cons c r ih =>
    cases r with
    | nil =>
      show sOf c = sOf [c].flatten
      simp
    | cons d r =>
      show sOf c ++ Str.ofString "" ++ Str.join (Str.ofString "") (List.map sOf (d :: r)) = sOf (c :: d :: r).flatten
      rw [ih, show (Str.ofString "") = sOf [] from rfl, sOf_app, sOf_app, List.append_nil]
      rfl
theorem lens_sum (ls : List (List Nat)) : ((ls.map sOf).map (·.length)).sum = ls.flatten.length := by
  induction ls with
  | nil => rfl
  | cons c r ih =>
    rw [List.map_cons, List.map_cons, List.sum_cons, ih, sOf_len, List.flatten_cons, List.length_append]
theorem join_flat_size {ls : List (List Nat)} (h : ls.flatten.length ≤ 100000) : ((ls.map sOf).map (·.length)).sum + (ls.map sOf).length * (Str.ofString "").length ≤ 16777216 := by
  rw [lens_sum, show (Str.ofString "").length = 0 from rfl]
  omega
theorem sV_strs (ls : List (List Nat)) : ls.map sV = (ls.map sOf).map V.str := by
  rw [List.map_map]
  rfl
theorem flatten_snoc {ls : List (List Nat)} {l : List Nat} : (ls ++ [l]).flatten = ls.flatten ++ l := by simp
end Fp

set_option Elab.async false
set_option linter.all false
set_option maxRecDepth 100000
set_option maxHeartbeats 4000000
/-! Steps by the row above. A place is told by s, one more than it. -/
namespace Fp
open PySem L2 PyProof.Rows
--PURE
def fchS (ab : List Nat) (s c : Nat) : Nat := if 1 ≤ s ∧ ab[s - 1]? ≠ some c then fp ab c s else s
def fch (ab : List Nat) (s c : Nat) : Nat := fp ab (oth c) (fchS ab s c)
inductive Stp where
  | passed
  | near (d : Int)
  | plain (a b : Nat)
def stA (l : List Nat) (s c : Nat) : Nat := fp l (oth c) s
def stC (ab : List Nat) (s c : Nat) : Nat := fp ab c (fch ab s c + 1)
def stE (l : List Nat) (s c : Nat) : Nat := fp l c (stA l s c + 1)
def NearP (ab l : List Nat) (s c : Nat) : Prop := (stA l s c : Int) - (fch ab s c : Int) ≤ 3 ∧ (fch ab s c : Int) - (stA l s c : Int) ≤ 3
instance (ab l : List Nat) (s c : Nat) : Decidable (NearP ab l s c) := by unfold NearP; exact inferInstance
def stepAt (ab l : List Nat) (s c : Nat) : Stp :=
  if stC ab s c < stA l s c then .passed else if NearP ab l s c then .near ((stA l s c : Int) - (fch ab s c : Int)) else .plain (stA l s c - (s - 1)) (stE l s c - stA l s c)
def ledT (ab : List Nat) (s c : Nat) : Stp → Int
  | .passed => (stC ab s c : Int)
  | .near d => (fch ab s c : Int) + d
  | .plain a b => ((s - 1 : Nat) : Int) + (a : Int) + (b : Int)
def colB (c : Nat) : Stp → Nat
  | .near _ => oth c
  | _ => c
/-- where a step leads that is told there -/
def ledN (ab l : List Nat) (s c : Nat) : Nat := if stC ab s c < stA l s c then stC ab s c else if NearP ab l s c then stA l s c else stE l s c
theorem fchS_le {ab : List Nat} {s c : Nat} (h : s ≤ ab.length) : s ≤ fchS ab s c ∧ fchS ab s c ≤ ab.length := by
  unfold fchS
  split
  · have := fp_spec (l := ab) (c := c) h
    omega
  · omega
theorem fch_le {ab : List Nat} {s c : Nat} (h : s ≤ ab.length) : s ≤ fch ab s c ∧ fch ab s c ≤ ab.length := by
  have h1 := fchS_le (c := c) h
  have h2 := fp_spec (l := ab) (c := oth c) h1.2
  unfold fch
  omega
theorem stA_le {l : List Nat} {s c : Nat} (h : s ≤ l.length) : s ≤ stA l s c ∧ stA l s c ≤ l.length := by
  have := fp_spec (l := l) (c := oth c) h
  unfold stA
  omega
theorem stE_le {l : List Nat} {s c : Nat} (h : s ≤ l.length) : stA l s c ≤ stE l s c ∧ stE l s c ≤ l.length := by
  have h1 := stA_le (c := c) h
  by_cases e : stA l s c + 1 ≤ l.length
  · have := fp_spec (l := l) (c := c) e
    unfold stE
    omega
  · unfold stE fp
    rw [if_neg e]
    omega
theorem stC_ge {ab : List Nat} {s c : Nat} (h : s ≤ ab.length) : s ≤ stC ab s c ∧ stC ab s c ≤ ab.length := by
  have h1 := fch_le (c := c) h
  by_cases e : fch ab s c + 1 ≤ ab.length
  · have := fp_spec (l := ab) (c := c) e
    unfold stC
    omega
  · unfold stC fp
    rw [if_neg e]
    omega
theorem ledN_le {ab l : List Nat} {s c : Nat} (h : s ≤ l.length) (e : ab.length = l.length) : s ≤ ledN ab l s c ∧ ledN ab l s c ≤ l.length := by
  have h1 := stA_le (c := c) h
  have h2 := stE_le (c := c) h
  have h3 := stC_ge (ab := ab) (c := c) (by omega : s ≤ ab.length)
  unfold ledN
  split
  · omega
  · split <;> omega
theorem ledT_step {ab l : List Nat} {s c : Nat} (h : s ≤ l.length) : ledT ab s c (stepAt ab l s c) = (ledN ab l s c : Int) := by
  have h1 := stA_le (c := c) h
  have h2 := stE_le (c := c) h
  unfold stepAt ledN
  split
  · rfl
  · split
    · show (fch ab s c : Int) + ((stA l s c : Int) - (fch ab s c : Int)) = _
      omega
    · show ((s - 1 : Nat) : Int) + ((stA l s c - (s - 1) : Nat) : Int) + ((stE l s c - stA l s c : Nat) : Int) = _
      omega
theorem colB_cell {c : Nat} (h : Cell c) (st : Stp) : Cell (colB c st) := by
  cases st with
  | near d => exact oth_cell c
  | passed => exact h
  | plain a b => exact h
/-- all steps, with their colours -/
def stepsF (ab l : List Nat) : Nat → Nat → Nat → List (Stp × Nat)
  | 0, _, _ => []
  | f + 1, s, c => if s ≤ l.length then (stepAt ab l s c, c) :: stepsF ab l f (ledN ab l s c + 1) (colB c (stepAt ab l s c)) else []
theorem stepsF_past (ab l : List Nat) : ∀ (f s c : Nat), l.length < s → stepsF ab l f s c = []
  | 0, _, _, _ => rfl
  | f + 1, s, c, h => by
    unfold stepsF
    rw [if_neg (by omega)]
theorem stepsF_fuel {ab l : List Nat} (e : ab.length = l.length) : ∀ (f s c : Nat), l.length + 1 ≤ f + s → stepsF ab l f s c = stepsF ab l (l.length + 1 - s) s c
  | 0, s, c, h => by
    rw [show l.length + 1 - s = 0 by omega]
  | f + 1, s, c, h => by
    by_cases hs : s ≤ l.length
    · obtain ⟨k, hk⟩ : ∃ k, l.length + 1 - s = k + 1 := ⟨l.length - s, by omega⟩
      rw [hk]
      show (if s ≤ l.length then _ else _) = (if s ≤ l.length then _ else _)
      rw [if_pos hs, if_pos hs]
      have lw := ledN_le (c := c) hs e
      rw [stepsF_fuel e f _ _ (by omega), stepsF_fuel e k _ _ (by omega)]
    · rw [stepsF_past ab l _ s c (by omega), stepsF_past ab l _ s c (by omega)]
def stepsL (ab l : List Nat) : List (Stp × Nat) := stepsF ab l (l.length + 1) 0 46
def stepsAt (ab l : List Nat) (s c : Nat) : List (Stp × Nat) := stepsF ab l (l.length + 1 - s) s c
theorem stepsAt_go {ab l : List Nat} {s c : Nat} (e : ab.length = l.length) (h : s ≤ l.length) : stepsAt ab l s c = (stepAt ab l s c, c) :: stepsAt ab l (ledN ab l s c + 1) (colB c (stepAt ab l s c)) := by
  unfold stepsAt
  obtain ⟨k, hk⟩ : ∃ k, l.length + 1 - s = k + 1 := ⟨l.length - s, by omega⟩
  rw [hk]
  show (if s ≤ l.length then _ else _) = _
  have lw := ledN_le (c := c) h e
  rw [if_pos h, stepsF_fuel e k _ _ (by omega)]
theorem stepsAt_end {ab l : List Nat} {s c : Nat} (h : l.length < s) : stepsAt ab l s c = [] := stepsF_past ab l _ s c h
theorem stepsF_len (ab l : List Nat) : ∀ (f s c : Nat), (stepsF ab l f s c).length ≤ f
  | 0, _, _ => Nat.le_refl _
  | f + 1, s, c => by
    unfold stepsF
    split
    · rw [List.length_cons]
      have := stepsF_len ab l f (ledN ab l s c + 1) (colB c (stepAt ab l s c))
      omega
    · exact Nat.zero_le _
/-- the law's way to the first change: where a cell hasn't the colour while the one ahead has it -/
theorem fch_law {ab : List Nat} {s c k : Nat} (hr : Row ab) (hc : Cell c) (h : s ≤ ab.length) (h0 : s = 0 → c = 46) (h1 : s ≤ k) (h2 : k ≤ ab.length)
    (h3 : ∀ v, s ≤ v → v < k → ¬ (ab[v]? = some (oth c) ∧ (46 :: ab)[v]? = some c)) (h4 : k < ab.length → ab[k]? = some (oth c) ∧ (46 :: ab)[k]? = some c) : fch ab s c = k := by
  have cell : ∀ v, v < ab.length → ab[v]? = some c ∨ ab[v]? = some (oth c) := fun v hv => by
    rw [List.getElem?_eq_getElem hv]
    by_cases e : ab[v] = oth c
    · exact .inr (by rw [e])
    · exact .inl (by rw [cell_ne hc (hr _ (List.getElem_mem hv)) e])
  have nco : some c ≠ some (oth c) := fun z => oth_ne hc (Option.some.inj z).symm
  -- from the beginning of the search on nothing but the colour stands ahead of the change
  have hS := fchS_le (c := c) h
  have pre : ∀ v, fchS ab s c ≤ v → v < ab.length → (∀ u, fchS ab s c ≤ u → u < v → ab[u]? ≠ some (oth c)) → (46 :: ab)[v]? = some c ∨ ab[v]? ≠ some (oth c) := by
    intro v hv hl hu
    by_cases e : v = fchS ab s c
    · unfold fchS at e
      split at e
      · rename_i q
        right
        have sp := fp_spec (l := ab) (c := c) h
        have := sp.2.2.2 (by omega)
        rw [e, this]
        exact nco
      · rename_i q
        left
        cases v with
        | zero =>
          have : c = 46 := h0 (by omega)
          rw [this]
          rfl
        | succ v =>
          show ab[v]? = some c
          have q' : ¬ (ab[s - 1]? ≠ some c) := fun z => q ⟨by omega, z⟩
          have : s - 1 = v := by omega
          rw [this] at q'
          exact Classical.not_not.mp q'
    · left
      cases v with
      | zero => omega
      | succ v =>
        show ab[v]? = some c
        rcases cell v (by omega) with z | z
        · exact z
        · exact absurd z (hu v (by omega) (by omega))
  have sp := fp_spec (l := ab) (c := oth c) hS.2
  unfold fch
  -- below the beginning of the search there is no change
  have low : ∀ v, s ≤ v → v < fchS ab s c → ¬ (ab[v]? = some (oth c) ∧ (46 :: ab)[v]? = some c) := by
    intro v hv hl
    unfold fchS at hl
    split at hl
    · rename_i q
      have spc := fp_spec (l := ab) (c := c) h
      rintro ⟨z1, z2⟩
      cases v with
      | zero => omega
      | succ v =>
        have z2 : ab[v]? = some c := z2
        by_cases e : v + 1 = s
        · have : s - 1 = v := by omega
          rw [this] at q
          exact q.2 z2
        · exact spc.2.2.1 v (by omega) (by omega) z2
    · omega
  by_cases e1 : fp ab (oth c) (fchS ab s c) < k
  · exfalso
    have a4 := sp.2.2.2 (by omega)
    refine h3 _ (by omega) e1 ⟨a4, ?_⟩
    rcases pre _ sp.1 (by omega) (fun u a b => sp.2.2.1 u a b) with z | z
    · exact z
    · exact absurd a4 z
  · by_cases e2 : k < fp ab (oth c) (fchS ab s c)
    · exfalso
      have ⟨b1, b2⟩ := h4 (by omega)
      by_cases e3 : k < fchS ab s c
      · exact low k h1 e3 ⟨b1, b2⟩
      · exact sp.2.2.1 k (by omega) e2 b1
    · omega
/-! ### tuples in a list -/
def TupsAt {α : Type} (f : α → List V) (H : Hp) : List V → List α → Prop
  | [], [] => True
  | v :: vs, x :: xs => (∃ a, v = .ref a ∧ H a = some (.tup (f x))) ∧ TupsAt f H vs xs
  | _, _ => False
theorem TupsAt.len {α : Type} {f : α → List V} {H : Hp} : ∀ {vs : List V} {xs : List α}, TupsAt f H vs xs → vs.length = xs.length
  | [], [], _ => rfl
  | _ :: vs, _ :: xs, h => by rw [List.length_cons, List.length_cons, TupsAt.len h.2]
  | [], _ :: _, h => h.elim
  | _ :: _, [], h => h.elim
theorem TupsAt.get {α : Type} {f : α → List V} {H : Hp} : ∀ {vs : List V} {xs : List α} {i : Nat} {v : V}, TupsAt f H vs xs → vs[i]? = some v → ∃ x a, xs[i]? = some x ∧ v = .ref a ∧ H a = some (.tup (f x))
  | [], [], _, _, _, e => by cases e
  | y :: vs, x :: xs, 0, v, h, e => by
    obtain ⟨⟨a, h1, h2⟩, _⟩ := h
    have : y = v := Option.some.inj e
    exact ⟨x, a, rfl, by rw [← this, h1], h2⟩
  | y :: vs, x :: xs, i + 1, v, h, e => TupsAt.get (i := i) h.2 e
  | [], _ :: _, _, _, h, _ => h.elim
  | _ :: _, [], _, _, h, _ => h.elim
theorem TupsAt.mono {α : Type} {f : α → List V} {H H' : Hp} : ∀ {vs : List V} {xs : List α}, TupsAt f H vs xs → (∀ a xs, H a = some (.tup xs) → H' a = some (.tup xs)) → TupsAt f H' vs xs
  | [], [], _, _ => trivial
  | y :: vs, x :: xs, h, m => by
    obtain ⟨⟨a, h1, h2⟩, h3⟩ := h
    exact ⟨⟨a, h1, m _ _ h2⟩, TupsAt.mono h3 m⟩
  | [], _ :: _, h, _ => h.elim
  | _ :: _, [], h, _ => h.elim
theorem TupsAt.app {α : Type} {f : α → List V} {H : Hp} {ws : List V} {ys : List α} (k : TupsAt f H ws ys) : ∀ {vs : List V} {xs : List α}, TupsAt f H vs xs → TupsAt f H (vs ++ ws) (xs ++ ys)
  | [], [], _ => k
  | _ :: vs, _ :: xs, h => ⟨h.1, TupsAt.app k h.2⟩
  | [], _ :: _, h => h.elim
  | _ :: _, [], h => h.elim
def stV : Stp → List V
  | .passed => [.str (Str.ofString "passed")]
  | .near d => [.str (Str.ofString "near"), .int d]
  | .plain a b => [.str (Str.ofString "plain"), .int (a : Int), .int (b : Int)]
/-! ### what is walked, where the written part is named -/
theorem pi_tupK {X : Cx} {tg l : Expr} {tl : TE} {K : PySem.W.Frag} (hK : X.K = K) (hl : PE X l tl) : PI X tg l (iTup K tl) := by
  subst hK
  exact pi_tup hl
theorem pi_listK {X : Cx} {tg l : Expr} {tl : TE} {K : PySem.W.Frag} (hK : X.K = K) (hl : PE X l tl) : PI X tg l (iList K tl) := by
  subst hK
  exact pi_list hl
end Fp

set_option Elab.async false
set_option linter.all false
set_option maxRecDepth 100000
set_option maxHeartbeats 4000000
/-! t.index(x) of a tuple whose items are tuples. -/
namespace Fp
open PySem PySem.Spec L2 PyProof.Rows
theorem u65 {k : Nat} {A : Around} (r : Room k A) : A.units + 65 < cLine := by
  have := r.un
  omega
section
variable {X : Cx}
def rTIndexD (K : PySem.W.Frag) : V → List V → Hp → VK → Prop := fun x xs H Q => ∃ (a : Addr) (y : V) (d : PyData) (ds : List PyData) (j : Nat) (z : PyData), x = V.ref a ∧ xs = [y] ∧ Dp K H (V.ref a) (.tuple ds) ∧ Dp K H y d ∧
  SeqAt.shaped (.tuple ds) = true ∧ SeqAt.shaped d = true ∧ ds[j]? = some z ∧ PyData.eqv z d = true ∧ (∀ (m : Nat) (z' : PyData), m < j → ds[m]? = some z' → PyData.eqv z' d = false) ∧ Q (.int (j : Nat)) H
theorem mt_tindexD (hu : X.A.units + 65 < cLine) : MtR X "tuple.index" (rTIndexD X.K) := by
  intro pins s σ H x xs v us Q I rx rxs h
  obtain ⟨a, y, d, ds, j, z, rfl, rfl, hl, hy, sl, sd, hz, hzj, hno, q⟩ := h
  cases rx
  cases rxs with
  | cons ry rt =>
    rename_i uy ut
    cases rt
    obtain ⟨bs, r1⟩ := Dp.reads I d y uy hy ry
    have hxs : PyData.canLayAll0 ds = true := SeqAt.canLay_of_shaped sl
    have hroom : X.A.units + 1 + min (PyData.depthAll ds) d.depth < cLine := room_in_shaped sd hu
    cases hl with
    | tup hs ha =>
      obtain ⟨its, rv, ⟨⟨cls, dd, data, sls⟩, ho, hc, n, hdt⟩, hlen⟩ := I.tuple hs
      simp only at hc hdt
      subst hc hdt
      obtain ⟨as, h4⟩ := Dp.readsAll I ds _ its ha rv
      have hn : its.length = ds.length := SeqAt.ReadsAll.length ds its as h4
      have hmap : its.map (SeqAt.readOf s.heap) = ds := SeqAt.readsAll_map ds its as hxs h4
      have hvl := rv.length
      have hsl := sizeLine_eq
      obtain ⟨hjd, _⟩ := List.getElem?_eq_some_iff.mp hz
      have hjl : j < its.length := by omega
      have hj : j < its.toArray.size := by simpa using hjl
      have at_ : ∀ (m : Nat) (hm : m < its.toArray.size) (z' : PyData), ds[m]? = some z' → SeqAt.readOf s.heap its.toArray[m] = z' := by
        intro m hm z' hz'
        have hml : m < its.length := by simpa using hm
        rw [← hmap, List.getElem?_map, List.getElem?_eq_getElem hml] at hz'
        have e1 : SeqAt.readOf s.heap its[m] = z' := Option.some.inj (show some (SeqAt.readOf s.heap its[m]) = some z' from hz')
        simpa using e1
      have eqs := SeqAt.items_eqAt (A := X.A) (vs := its.toArray) (show ReadsAll s.heap its.toArray.toList ds as from h4) r1 hxs (SeqAt.canLay_of_shaped sd) hroom
      refine call_meets PySem.F.slot_tuple_index ⟨_, ho, rfl⟩ PySem.F.entry_tuple_index (PySem.F.args_tuple_index_2 _ _)
        (SeqAt.tuple_index2_found a its.toArray n dd sls uy (fun m => PyData.eqv (SeqAt.readOf s.heap (its.toArray.getD m .none)) d) j hj (by omega) (by omega) ?_ ?_) ⟨ho, fun m hm => ?_, ?_⟩
      · show PyData.eqv (SeqAt.readOf s.heap (its.toArray.getD j .none)) d = true
        rw [show its.toArray.getD j .none = its.toArray[j] by simp [Array.getD, hjl], at_ j hj z hz]
        exact hzj
      · intro m hm _ hmj
        have hmd : m < ds.length := by omega
        have hz' : ds[m]? = some ds[m] := List.getElem?_eq_getElem hmd
        show PyData.eqv (SeqAt.readOf s.heap (its.toArray.getD m .none)) d = false
        have hml : m < its.length := by omega
        rw [show its.toArray.getD m .none = its.toArray[m] by simp [Array.getD, hml], at_ m hm _ hz']
        exact hno m _ hmj hz'
      · have hml : m < its.length := by simpa using hm
        have := eqs its.toArray[m] (by simp)
        show SeqAt.EqAt _ s its.toArray[m] uy (PyData.eqv (SeqAt.readOf s.heap (its.toArray.getD m .none)) d)
        rw [show its.toArray.getD m .none = its.toArray[m] by simp [Array.getD, hml]]
        exact this
      · exact ⟨.int (j : Nat), H, I.tok _, ⟨_, rfl⟩, q⟩
end
/-! ### a method, where the written part is named -/
section
variable {X : Cx} {K : PySem.W.Frag} {T : String} {name : Str} {id : String} {r : V → List V → Hp → VK → Prop} {o e : Expr} {es : List Expr} {to : TE} {t : TA} {apos cpos : Pos}
theorem pe_bmK (hK : X.K = K) (pa : PlainAttrs T) (slot : Slot T name id) (hty : typeOf (.builtin id) = pure (.type "method_descriptor")) (hm : MtR X id r) (ho : PE X o to) (ha : PA X (e :: es) t)
    (hbase : attributeBase o name X.env (eval o X.env) = eval o X.env := by rfl)
    (hfew : ((backTo cpos (starEach (e :: es) X.env)).all (fun x => !x.1) && (backToKw cpos (keywordEach [] X.env)).all (fun x => x.1.isSome)
      && decide ((e :: es).length + ([] : List Keyword).length + (if ([] : List Keyword).isEmpty then 0 else 1) < 30)) = true := by rfl)
    (hline : (apos.endLine == cpos.line) = true := by rfl) (hs : starEach (e :: es) X.env = (false, eval e X.env) :: starEach es X.env := by rfl) (hplain : (backTo cpos (starEach es X.env)).any (·.1) = false := by rfl) :
    PE X (.Call (.Attribute o name apos) (e :: es) [] cpos) (tBM K T r to t) := by
  subst hK
  exact pe_bm pa slot hty hm ho ha hbase hfew hline hs hplain
end
end Fp

set_option Elab.async false
set_option linter.all false
set_option maxRecDepth 100000
set_option maxHeartbeats 4000000
/-! Marks: where they stand, and how they are found. -/
namespace Fp
open PySem L2 PyProof.Rows
--PURE
def mkL : List Nat := [48, 48, 48, 48, 48, 48, 48, 48, 48, 48, 48, 49]
/-- a mark begins at p -/
def occ (l : List Nat) (p : Nat) : Bool := (l.drop p).take 12 == mkL
theorem occ_get {l : List Nat} {p : Nat} (h : occ l p = true) : p + 12 ≤ l.length ∧ (∀ i, i < 11 → l[p + i]? = some 48) ∧ l[p + 11]? = some 49 := by
  have e : (l.drop p).take 12 = mkL := eq_of_beq h
  have ln := congrArg List.length e
  rw [List.length_take, List.length_drop] at ln
  have ln : min 12 (l.length - p) = 12 := ln
  have at_ : ∀ i, i < 12 → l[p + i]? = mkL[i]? := fun i hi => by
    rw [← e, List.getElem?_take_of_lt hi, List.getElem?_drop]
  refine ⟨by omega, fun i hi => ?_, by rw [at_ 11 (by decide)]; rfl⟩
  rw [at_ i (by omega)]
  have : ∀ i : Nat, i < 11 → mkL[i]? = some 48 := by decide
  exact this i hi
theorem occ_of {l : List Nat} {p : Nat} (h0 : ∀ i, i < 11 → l[p + i]? = some 48) (h1 : l[p + 11]? = some 49) : occ l p = true := by
  refine beq_iff_eq.mpr ?_
  apply List.ext_getElem?
  intro i
  by_cases hi : i < 12
  · rw [List.getElem?_take_of_lt hi, List.getElem?_drop]
    by_cases z : i < 11
    · rw [h0 i z]
      have : ∀ i : Nat, i < 11 → mkL[i]? = some 48 := by decide
      rw [this i z]
    · have : i = 11 := by omega
      rw [this, h1]
      rfl
  · rw [List.getElem?_eq_none (by rw [List.length_take]; omega), List.getElem?_eq_none (by show 12 ≤ i; omega)]
/-- two marks don't share a sign -/
theorem occ_apart {l : List Nat} {p q : Nat} (h : occ l p = true) (h2 : occ l q = true) (lt : p < q) : p + 12 ≤ q := by
  by_cases z : p + 12 ≤ q
  · exact z
  · obtain ⟨_, _, a⟩ := occ_get h
    obtain ⟨_, b, _⟩ := occ_get h2
    have := b (p + 11 - q) (by omega)
    rw [show q + (p + 11 - q) = p + 11 by omega, a] at this
    cases this
def occs (l : List Nat) (s : Nat) : List Nat := (List.range s).filter (occ l)
theorem occs_none {l : List Nat} {s t : Nat} (h : s ≤ t) (hn : ∀ v, s ≤ v → v < t → occ l v = false) : occs l t = occs l s := by
  obtain ⟨k, rfl⟩ : ∃ k, t = s + k := ⟨t - s, by omega⟩
  induction k with
  | zero => rfl
  | succ k ih =>
    have h1 := ih (by omega) (fun v a b => hn v a (by omega))
    unfold occs at h1 ⊢
    rw [← Nat.add_assoc, List.range_succ, List.filter_append, h1]
    have : occ l (s + k) = false := hn _ (by omega) (by omega)
    simp [this]
theorem occs_one {l : List Nat} {s k : Nat} (h : s ≤ k) (hk : occ l k = true) (hn : ∀ v, s ≤ v → v < k → occ l v = false) : occs l (k + 12) = occs l s ++ [k] := by
  have h1 : occs l (k + 1) = occs l s ++ [k] := by
    have := occs_none h hn
    unfold occs at this ⊢
    rw [List.range_succ, List.filter_append, this]
    simp [hk]
  rw [← h1]
  refine occs_none (by omega) fun v a b => ?_
  cases z : occ l v with
  | false => rfl
  | true => exact absurd (occ_apart hk z (by omega)) (by omega)
theorem occs_end {l : List Nat} {s : Nat} (hn : ∀ v, s ≤ v → occ l v = false) (t : Nat) (h : s ≤ t) : occs l t = occs l s := occs_none h fun v a _ => hn v a
theorem occ_far {l : List Nat} {v : Nat} (h : l.length < v + 12) : occ l v = false := by
  cases z : occ l v with
  | false => rfl
  | true => exact absurd (occ_get z).1 (by omega)
/-- the ends of all marks -/
def endsL (l : List Nat) : List Nat := (occs l l.length).map (· + 12)
theorem occs_len (l : List Nat) (s : Nat) : (occs l s).length ≤ s := by
  unfold occs
  have := List.length_filter_le (occ l) (List.range s)
  rw [List.length_range] at this
  exact this
theorem occ_iff {l : List Nat} {i : Nat} : occ l i = true ↔ (l[i + 11]? = some 49 ∧ (l.drop i).take 11 = List.replicate 11 48) := by
  constructor
  · intro h
    obtain ⟨a, b, c⟩ := occ_get h
    refine ⟨c, ?_⟩
    apply List.ext_getElem?
    intro j
    by_cases hj : j < 11
    · rw [List.getElem?_take_of_lt hj, List.getElem?_drop, b j hj, List.getElem?_replicate, if_pos hj]
    · rw [List.getElem?_eq_none (by rw [List.length_take]; omega), List.getElem?_eq_none (by rw [List.length_replicate]; omega)]
  · rintro ⟨h1, h2⟩
    refine occ_of (fun j hj => ?_) h1
    have : ((l.drop i).take 11)[j]? = some 48 := by rw [h2, List.getElem?_replicate, if_pos hj]
    rw [List.getElem?_take_of_lt hj, List.getElem?_drop] at this
    exact this
--END
theorem cutS_mid (l : List Nat) (a b : Nat) (h : a ≤ b) : cutS (sOf l) (some (a : Int)) (some (b : Int)) = sOf ((l.drop a).take (b - a)) := by
  unfold cutS
  rw [HT.sIx_nat, HT.sIx_nat, sOf_len, sOf_list]
  show sOf _ = sOf _
  congr 1
  by_cases h1 : a ≤ l.length
  · rw [Nat.min_eq_left h1]
    by_cases h2 : b ≤ l.length
    · rw [Nat.min_eq_left h2]
    · have q : (l.drop a).length = l.length - a := List.length_drop ..
      rw [Nat.min_eq_right (by omega), List.take_of_length_le (by omega), List.take_of_length_le (by omega)]
  · rw [Nat.min_eq_right (by omega), Nat.min_eq_right (by omega), List.drop_eq_nil_of_le (by omega), List.drop_eq_nil_of_le (by omega), List.take_nil, List.take_nil]
theorem at_occ {l : List Nat} {i : Nat} : StrLaws.At (sOf l) (sOf mkL) (sOf l).length i ↔ occ l i = true := by
  unfold StrLaws.At
  rw [StrLaws.subAt_eq, sOf_list, sOf_list, sOf_len, sOf_len]
  constructor
  · exact fun h => h.2
  · exact fun h => ⟨(occ_get h).1, h⟩
theorem find_occ (l : List Nat) (s : Nat) : (Txt.find3 (sOf l) (sOf mkL) (s : Int) < 0 ∧ ∀ v, s ≤ v → occ l v = false) ∨ ∃ k : Nat, Txt.find3 (sOf l) (sOf mkL) (s : Int) = (k : Int) ∧ s ≤ k ∧ occ l k = true ∧ ∀ v, s ≤ v → v < k → occ l v = false := by
  have e : PySem.fromIndex (sOf l).length (s : Int) = s := by
    unfold PySem.fromIndex
    rw [if_neg (by omega)]
    omega
  have nb : ∀ {v}, ¬ StrLaws.At (sOf l) (sOf mkL) (sOf l).length v → occ l v = false := fun {v} h => by
    cases z : occ l v with
    | false => rfl
    | true => exact absurd (at_occ.mpr z) h
  unfold Txt.find3
  rw [e]
  rcases StrLaws.occ_head_from (sOf l) (sOf mkL) s 1 (Nat.le_refl _) with ⟨h0, hn⟩ | ⟨k, r, h0, hlo, hk, hn⟩
  · rw [h0]
    exact .inl ⟨by show (-1 : Int) < 0; decide, fun v hv => nb (hn v hv)⟩
  · rw [h0]
    exact .inr ⟨k, rfl, hlo, at_occ.mp hk, fun v a b => nb (hn v a b)⟩
end Fp

set_option Elab.async false
set_option linter.all false
set_option maxRecDepth 100000
set_option maxHeartbeats 4000000
/-! Stretches between marks. -/
namespace Fp
open PySem L2 PyProof.Rows
--PURE
def emp (st : List Nat) : Bool := decide (st = 49 :: (List.replicate (st.length - 2) 48 ++ [49]))
theorem st_split {st : List Nat} (h2 : 2 ≤ st.length) (hl : st[st.length - 1]? = some 49) : ∃ x mid, st = x :: (mid ++ [49]) := by
  cases st with
  | nil => exact absurd h2 (by decide)
  | cons x r =>
    have hr : r ≠ [] := fun e => by
      rw [e] at h2
      exact absurd h2 (by show ¬ 2 ≤ 1; decide)
    refine ⟨x, r.dropLast, ?_⟩
    congr 1
    have e := (List.dropLast_concat_getLast hr).symm
    have e2 : r.getLast hr = 49 := by
      rw [List.length_cons, Nat.add_sub_cancel] at hl
      rw [List.getLast_eq_getElem]
      have hr2 : 0 < r.length := List.length_pos_iff.mpr hr
      obtain ⟨k, hk⟩ : ∃ k, r.length = k + 1 := ⟨r.length - 1, by omega⟩
      rw [hk, List.getElem?_cons_succ] at hl
      have hlt : r.length - 1 < r.length := by omega
      have : r[r.length - 1]? = some 49 := by rw [show r.length - 1 = k by omega]; exact hl
      rw [List.getElem?_eq_getElem hlt] at this
      exact Option.some.inj this
    rw [e2] at e
    exact e
theorem emp_iff {st : List Nat} (hb : ∀ c ∈ st, c = 48 ∨ c = 49) (h2 : 2 ≤ st.length) (hl : st[st.length - 1]? = some 49) : emp st = true ↔ (st[0]? = some 49 ∧ 49 ∉ (st.drop 1).take (st.length - 2)) := by
  obtain ⟨x, mid, rfl⟩ := st_split h2 hl
  have ln : (x :: (mid ++ [49])).length - 2 = mid.length := by
    rw [List.length_cons, List.length_append]
    rfl
  have md : ((x :: (mid ++ [49])).drop 1).take ((x :: (mid ++ [49])).length - 2) = mid := by
    rw [ln]
    show (mid ++ [49]).take mid.length = mid
    rw [List.take_append_of_le_length (Nat.le_refl _), List.take_length]
  rw [md]
  unfold emp
  rw [ln, decide_eq_true_iff]
  constructor
  · intro e
    have e1 := List.cons.inj e
    refine ⟨by rw [e1.1]; rfl, fun hm => ?_⟩
    have e3 : mid = List.replicate mid.length 48 := List.append_cancel_right e1.2
    rw [e3] at hm
    have := (List.mem_replicate.mp hm).2
    cases this
  · rintro ⟨e1, e2⟩
    have hx : x = 49 := Option.some.inj e1
    subst hx
    congr 2
    refine List.eq_replicate_iff.mpr ⟨rfl, fun c hc => ?_⟩
    rcases hb c (List.mem_cons_of_mem _ (List.mem_append_left _ hc)) with z | z
    · exact z
    · exact absurd (z ▸ hc) e2
/-- two ends, one behind the other -/
def sttL (l : List Nat) : List (List Nat) := (List.range ((endsL l).length - 1)).map fun i => (l.drop ((endsL l).getD i 0)).take ((endsL l).getD (i + 1) 0 - (endsL l).getD i 0)
def E2 (F : List (List Nat)) (a : Nat) : Prop := emp (F.getD (a - 1) []) = true ∧ emp (F.getD a []) = true
def StrR (F F' : List (List Nat)) (b : Bool) : Prop := (b = true ∧ ∃ a, 1 ≤ a ∧ a < F.length ∧ E2 F a ∧ (∀ a', 1 ≤ a' → a' < a → ¬ E2 F a') ∧ F' = F.take (a - 1)) ∨ (b = false ∧ (∀ a, 1 ≤ a → a < F.length → ¬ E2 F a) ∧ F' = F)
theorem StrR.uniq {F F1 F2 : List (List Nat)} {b1 b2 : Bool} (h1 : StrR F F1 b1) (h2 : StrR F F2 b2) : F1 = F2 ∧ b1 = b2 := by
  rcases h1 with ⟨rfl, a, a1, a2, a3, a4, rfl⟩ | ⟨rfl, n1, rfl⟩
  · rcases h2 with ⟨rfl, c, c1, c2, c3, c4, rfl⟩ | ⟨rfl, n2, rfl⟩
    · have : a = c := by
        by_cases x : a < c
        · exact absurd a3 (c4 a a1 x)
        · by_cases y : c < a
          · exact absurd c3 (a4 c c1 y)
          · omega
      subst this
      exact ⟨rfl, rfl⟩
    · exact absurd a3 (n2 a a1 a2)
  · rcases h2 with ⟨rfl, c, c1, c2, c3, c4, rfl⟩ | ⟨rfl, n2, rfl⟩
    · exact absurd c3 (n1 c c1 c2)
    · exact ⟨rfl, rfl⟩
theorem occs_sorted (l : List Nat) (s : Nat) : (occs l s).Pairwise (· < ·) := by
  unfold occs
  exact List.Pairwise.filter _ List.pairwise_lt_range
theorem ends_at {l : List Nat} {i : Nat} (h : i < (endsL l).length) : ∃ p, (occs l l.length)[i]? = some p ∧ (endsL l).getD i 0 = p + 12 ∧ occ l p = true ∧ p + 12 ≤ l.length := by
  have hi : i < (occs l l.length).length := by
    unfold endsL at h
    rw [List.length_map] at h
    exact h
  have hm := List.getElem_mem hi
  have hocc : occ l (occs l l.length)[i] = true := by
    unfold occs at hm
    exact (List.mem_filter.mp hm).2
  refine ⟨(occs l l.length)[i], List.getElem?_eq_getElem hi, ?_, hocc, (occ_get hocc).1⟩
  unfold endsL
  rw [List.getD_eq_getElem?_getD, List.getElem?_map, List.getElem?_eq_getElem hi]
  rfl
/-- a stretch is long enough, and ends with a mark -/
theorem str_at {l : List Nat} {i : Nat} (h : i + 1 < (endsL l).length) : (endsL l).getD i 0 + 12 ≤ (endsL l).getD (i + 1) 0 ∧ (endsL l).getD (i + 1) 0 ≤ l.length ∧ ((sttL l).getD i []).length = (endsL l).getD (i + 1) 0 - (endsL l).getD i 0 ∧ ((sttL l).getD i [])[((sttL l).getD i []).length - 1]? = some 49 ∧ (sttL l)[i]? = some ((l.drop ((endsL l).getD i 0)).take ((endsL l).getD (i + 1) 0 - (endsL l).getD i 0)) := by
  obtain ⟨p, hp, ep, op, lp⟩ := ends_at (show i < (endsL l).length by omega)
  obtain ⟨r, hr, er, or_, lr⟩ := ends_at h
  have lt : p < r := by
    have := List.pairwise_iff_getElem.mp (occs_sorted l l.length) i (i + 1) (List.getElem?_eq_some_iff.mp hp).1 (List.getElem?_eq_some_iff.mp hr).1 (by omega)
    rw [List.getElem?_eq_getElem (List.getElem?_eq_some_iff.mp hp).1] at hp
    rw [List.getElem?_eq_getElem (List.getElem?_eq_some_iff.mp hr).1] at hr
    rw [← Option.some.inj hp, ← Option.some.inj hr]
    exact this
  have ap := occ_apart op or_ lt
  have e5 : (sttL l)[i]? = some ((l.drop ((endsL l).getD i 0)).take ((endsL l).getD (i + 1) 0 - (endsL l).getD i 0)) := by
    unfold sttL
    rw [List.getElem?_map, List.getElem?_range (by omega)]
    rfl
  have e6 : (sttL l).getD i [] = (l.drop ((endsL l).getD i 0)).take ((endsL l).getD (i + 1) 0 - (endsL l).getD i 0) := by
    rw [List.getD_eq_getElem?_getD, e5]
    rfl
  have e7 : ((sttL l).getD i []).length = (endsL l).getD (i + 1) 0 - (endsL l).getD i 0 := by
    rw [e6, List.length_take, List.length_drop]
    omega
  refine ⟨by omega, by omega, e7, ?_, e5⟩
  rw [e7, e6, List.getElem?_take_of_lt (by omega), List.getElem?_drop, ep, er]
  have := (occ_get or_).2.2
  rw [show p + 12 + (r + 12 - (p + 12) - 1) = r + 11 by omega]
  exact this
theorem sttL_len (l : List Nat) : (sttL l).length = (endsL l).length - 1 := by
  unfold sttL
  rw [List.length_map, List.length_range]
--END
theorem cutS_mid1 {l : List Nat} (h : 2 ≤ l.length) : cutS (sOf l) (some 1) (some (-1)) = sOf ((l.drop 1).take (l.length - 2)) := by
  unfold cutS
  rw [show HT.sIx (sOf l).length 0 (some 1) = min 1 (sOf l).length from HT.sIx_nat _ _ 1, sOf_len, sOf_list, Nat.min_eq_left (by omega)]
  show sOf ((l.drop 1).take ((-1 + (l.length : Int)).toNat - 1)) = _
  rw [show (-1 + (l.length : Int)).toNat - 1 = l.length - 2 by omega]
end Fp

set_option Elab.async false
set_option linter.all false
set_option maxRecDepth 100000
set_option maxHeartbeats 4000000
/-! Noughts that stand together. -/
namespace Fp
open PySem L2 PyProof.Rows
--PURE
def tz (t c : Nat) : Nat := if c = 48 then t + 1 else 0
def trail (t : Nat) (l : List Nat) : Nat := l.foldl tz t
/-- the most noughts together, with t of them ahead -/
def mxZ : Nat → List Nat → Nat
  | t, [] => t
  | t, c :: r => max t (mxZ (tz t c) r)
/-- ones with eleven noughts ahead -/
def cntM : Nat → List Nat → Nat
  | _, [] => 0
  | t, c :: r => (if c = 49 ∧ 11 ≤ t then 1 else 0) + cntM (tz t c) r
theorem tz_mono {t u : Nat} (h : t ≤ u) (c : Nat) : tz t c ≤ tz u c := by
  unfold tz
  split <;> omega
theorem trail_mono {t u : Nat} (l : List Nat) (h : t ≤ u) : trail t l ≤ trail u l := by
  induction l generalizing t u with
  | nil => exact h
  | cons c r ih => exact ih (tz_mono h c)
theorem mxZ_mono {t u : Nat} (l : List Nat) (h : t ≤ u) : mxZ t l ≤ mxZ u l := by
  induction l generalizing t u with
  | nil => exact h
  | cons c r ih =>
    have := ih (tz_mono h c)
    show max t (mxZ (tz t c) r) ≤ max u (mxZ (tz u c) r)
    omega
theorem trail_app (t : Nat) (a b : List Nat) : trail t (a ++ b) = trail (trail t a) b := by
  unfold trail
  rw [List.foldl_append]
theorem mxZ_app (t : Nat) (a b : List Nat) : mxZ t (a ++ b) = max (mxZ t a) (mxZ (trail t a) b) := by
  induction a generalizing t with
  | nil =>
    show mxZ t b = max t (mxZ t b)
    have : t ≤ mxZ t b := by
      cases b with
      | nil => exact Nat.le_refl _
      | cons c r => exact Nat.le_max_left _ _
    omega
  | cons c r ih =>
    show max t (mxZ (tz t c) (r ++ b)) = max (max t (mxZ (tz t c) r)) (mxZ (trail (tz t c) r) b)
    rw [ih]
    omega
theorem cntM_app (t : Nat) (a b : List Nat) : cntM t (a ++ b) = cntM t a + cntM (trail t a) b := by
  induction a generalizing t with
  | nil =>
    show cntM t b = 0 + cntM t b
    omega
  | cons c r ih =>
    show (if c = 49 ∧ 11 ≤ t then 1 else 0) + cntM (tz t c) (r ++ b) = (if c = 49 ∧ 11 ≤ t then 1 else 0) + cntM (tz t c) r + cntM (trail (tz t c) r) b
    rw [ih]
    omega
theorem cntM_none {t : Nat} {l : List Nat} (h : mxZ t l ≤ 10) : cntM t l = 0 := by
  induction l generalizing t with
  | nil => rfl
  | cons c r ih =>
    have h : max t (mxZ (tz t c) r) ≤ 10 := h
    show (if c = 49 ∧ 11 ≤ t then 1 else 0) + cntM (tz t c) r = 0
    rw [if_neg (fun z => by have := z.2; omega), ih (by omega)]
theorem trail_rep (t n : Nat) : trail t (List.replicate n 48) = t + n := by
  induction n generalizing t with
  | zero => rfl
  | succ n ih =>
    show trail (t + 1) (List.replicate n 48) = _
    rw [ih]
    omega
theorem cntM_rep (t n : Nat) : cntM t (List.replicate n 48) = 0 := by
  induction n generalizing t with
  | zero => rfl
  | succ n ih =>
    show (if 48 = 49 ∧ 11 ≤ t then 1 else 0) + cntM (t + 1) (List.replicate n 48) = 0
    rw [if_neg (fun z => absurd z.1 (by decide)), ih]
theorem trail_le_mxZ (t : Nat) (l : List Nat) : trail t l ≤ mxZ t l := by
  induction l generalizing t with
  | nil => exact Nat.le_refl _
  | cons c r ih => exact Nat.le_trans (ih (tz t c)) (Nat.le_max_right _ _)
/-- where ten noughts stand together -/
theorem ten_mxZ {t n i : Nat} {l : List Nat} (h : (l.drop i).take n = List.replicate n 48) : n ≤ mxZ t l := by
  have e : l = l.take i ++ (List.replicate n 48 ++ (l.drop i).drop n) := by
    rw [← h, List.take_append_drop, List.take_append_drop]
  rw [e, mxZ_app, mxZ_app]
  have h1 := trail_le_mxZ (trail t (l.take i)) (List.replicate n 48)
  rw [trail_rep] at h1
  omega
/-- parts that lead from few noughts to few -/
def Few (w : List Nat) : Prop := trail 4 w ≤ 4 ∧ mxZ 4 w ≤ 9
theorem Few.from {w : List Nat} (h : Few w) {t : Nat} (ht : t ≤ 4) : trail t w ≤ 4 ∧ mxZ t w ≤ 9 := ⟨Nat.le_trans (trail_mono w ht) h.1, Nat.le_trans (mxZ_mono w ht) h.2⟩
theorem Few.nil : Few [] := ⟨Nat.le_refl _, by decide⟩
theorem Few.app {a b : List Nat} (ha : Few a) (hb : Few b) : Few (a ++ b) := by
  have h := hb.from ha.1
  refine ⟨by rw [trail_app]; exact h.1, ?_⟩
  rw [mxZ_app]
  have := ha.2
  have := h.2
  omega
theorem Few.flat : ∀ {ws : List (List Nat)}, (∀ w ∈ ws, Few w) → Few ws.flatten
  | [], _ => Few.nil
  | w :: r, h => (h w (List.mem_cons_self ..)).app (Few.flat fun x hx => h x (List.mem_cons_of_mem _ hx))
instance (w : List Nat) : Decidable (Few w) := by
  unfold Few
  exact inferInstance
/-- a mark, a tag, a telling, noughts -/
def mk12 : List Nat := [48, 48, 48, 48, 48, 48, 48, 48, 48, 48, 48, 49]
theorem cnt_mark (t : Nat) : cntM t mk12 = 1 ∧ trail t mk12 = 0 := by
  have e : mk12 = List.replicate 11 48 ++ [49] := rfl
  rw [e, cntM_app, trail_app, cntM_rep, trail_rep]
  refine ⟨?_, rfl⟩
  show 0 + ((if 49 = 49 ∧ 11 ≤ t + 11 then 1 else 0) + 0) = 1
  rw [if_pos ⟨rfl, by omega⟩]
theorem cnt_row {t c n : Nat} {w : List Nat} (hw : Few w) : cntM t (mk12 ++ (c :: w) ++ List.replicate n 48) = 1 := by
  rw [cntM_app, cntM_app, (cnt_mark t).1, (cnt_mark t).2, cntM_rep]
  have : cntM 0 (c :: w) = 0 := by
    refine cntM_none ?_
    show max 0 (mxZ (tz 0 c) w) ≤ 10
    have h1 : tz 0 c ≤ 4 := by
      unfold tz
      split <;> omega
    have := (hw.from h1).2
    omega
  rw [this]
theorem cnt_flat : ∀ {ws : List (List Nat)} (t : Nat), (∀ w ∈ ws, ∀ t, cntM t w = 1) → cntM t ws.flatten = ws.length
  | [], _, _ => rfl
  | w :: r, t, h => by
    rw [List.flatten_cons, cntM_app, h w (List.mem_cons_self ..) t, cnt_flat (ws := r) _ fun x hx => h x (List.mem_cons_of_mem _ hx), List.length_cons]
    omega
theorem cnt_end (t : Nat) : cntM t (mk12 ++ [49]) = 1 := by
  rw [cntM_app, (cnt_mark t).1, (cnt_mark t).2]
  rfl
--END
end Fp

set_option Elab.async false
set_option linter.all false
set_option maxRecDepth 100000
set_option maxHeartbeats 4000000
/-! Bits cut at the marks' ends, rows filled up. -/
namespace Fp
open PySem L2 PyProof.Rows
--PURE
/-- bits cut behind each 1 with eleven noughts ahead: the noughts ahead, what is begun -/
def cutL : Nat → List Nat → List Nat → List (List Nat)
  | _, cur, [] => [cur]
  | t, cur, c :: r => if c = 49 ∧ 11 ≤ t then (cur ++ [c]) :: cutL 0 [] r else cutL (tz t c) (cur ++ [c]) r
theorem cutL_few : ∀ (w : List Nat) (t : Nat) (cur r : List Nat), mxZ t w ≤ 10 → cutL t cur (w ++ r) = cutL (trail t w) (cur ++ w) r
  | [], t, cur, r, _ => by
    show cutL t cur r = cutL t (cur ++ []) r
    rw [List.append_nil]
  | c :: w, t, cur, r, h => by
    have h : max t (mxZ (tz t c) w) ≤ 10 := h
    show (if c = 49 ∧ 11 ≤ t then (cur ++ [c]) :: cutL 0 [] (w ++ r) else cutL (tz t c) (cur ++ [c]) (w ++ r)) = _
    rw [if_neg (fun z => by have := z.2; omega), cutL_few w (tz t c) (cur ++ [c]) r (by omega), List.append_assoc]
    rfl
theorem cutL_rep : ∀ (n t : Nat) (cur r : List Nat), cutL t cur (List.replicate n 48 ++ r) = cutL (t + n) (cur ++ List.replicate n 48) r
  | 0, t, cur, r => by
    show cutL t cur r = cutL t (cur ++ []) r
    rw [List.append_nil]
  | n + 1, t, cur, r => by
    show (if 48 = 49 ∧ 11 ≤ t then (cur ++ [48]) :: cutL 0 [] (List.replicate n 48 ++ r) else cutL (t + 1) (cur ++ [48]) (List.replicate n 48 ++ r)) = _
    rw [if_neg (fun z => absurd z.1 (by decide)), cutL_rep n (t + 1) (cur ++ [48]) r, List.append_assoc, show t + 1 + n = t + (n + 1) by omega]
    rfl
theorem cutL_mark (t : Nat) (cur r : List Nat) : cutL t cur (mk12 ++ r) = (cur ++ mk12) :: cutL 0 [] r := by
  have e : mk12 ++ r = List.replicate 11 48 ++ 49 :: r := rfl
  rw [e, cutL_rep]
  show (if 49 = 49 ∧ 11 ≤ t + 11 then (cur ++ List.replicate 11 48 ++ [49]) :: cutL 0 [] r else _) = _
  rw [if_pos ⟨rfl, by omega⟩, List.append_assoc]
  rfl
/-- parts, each behind a mark -/
def cuts : List Nat → List (List Nat) → List (List Nat)
  | cur, [] => [cur]
  | cur, w :: r => (cur ++ mk12) :: cuts w r
theorem cuts_len : ∀ (ws : List (List Nat)) (cur : List Nat), (cuts cur ws).length = ws.length + 1
  | [], _ => rfl
  | w :: r, cur => by
    show (cuts w r).length + 1 = _
    rw [cuts_len r w]
    rfl
theorem cutL_cuts : ∀ (ws : List (List Nat)) (t : Nat) (cur : List Nat), (∀ w ∈ ws, mxZ 0 w ≤ 10) → cutL t cur (ws.map (mk12 ++ ·)).flatten = cuts cur ws
  | [], _, _, _ => rfl
  | w :: r, t, cur, h => by
    rw [List.map_cons, List.flatten_cons, List.append_assoc, cutL_mark, cutL_few w 0 [] _ (h w (List.mem_cons_self ..)), cutL_cuts r _ _ (fun x hx => h x (List.mem_cons_of_mem _ hx))]
    rfl
/-- one part filled up -/
def fillP (many least k : Nat) (p : List Nat) : List Nat := if k ≤ many then p.take (p.length - 12) ++ List.replicate (least - p.length) 48 ++ p.drop (p.length - 12) else p
def fillF (many least : Nat) : Nat → List (List Nat) → List Nat
  | _, [] => []
  | k, p :: r => fillP many least k p ++ fillF many least (k + 1) r
theorem fillF_past {many least : Nat} : ∀ (ps : List (List Nat)) (k : Nat), many < k → fillF many least k ps = ps.flatten
  | [], _, _ => rfl
  | p :: r, k, h => by
    show fillP many least k p ++ fillF many least (k + 1) r = _
    rw [fillF_past r (k + 1) (by omega), List.flatten_cons]
    unfold fillP
    rw [if_neg (by omega)]
def pad12 (least : Nat) (w : List Nat) : List Nat := w ++ List.replicate (least - (12 + w.length)) 48
theorem fillP_mark {many least k : Nat} {w : List Nat} (h : k ≤ many) : fillP many least k (w ++ mk12) = pad12 least w ++ mk12 := by
  unfold fillP pad12
  have l : (w ++ mk12).length = w.length + 12 := by
    rw [List.length_append]
    rfl
  rw [if_pos h, l, Nat.add_sub_cancel, List.take_left, List.drop_left, Nat.add_comm w.length 12]
theorem fillF_cuts {many least : Nat} : ∀ (W : List (List Nat)) (w : List Nat) (k : Nat), k + W.length = many → fillF many least k (cuts w (W ++ List.replicate 6 [49])) = pad12 least w ++ (W.map fun x => mk12 ++ pad12 least x).flatten ++ (List.replicate 6 (mk12 ++ [49])).flatten
  | [], w, k, h => by
    show fillP many least k (w ++ mk12) ++ fillF many least (k + 1) (cuts [49] (List.replicate 5 [49])) = _
    have h : k + 0 = many := h
    rw [fillP_mark (by omega), fillF_past _ _ (by omega), List.append_assoc]
    show _ = pad12 least w ++ [] ++ _
    rw [List.append_nil]
    rfl
  | x :: W, w, k, h => by
    show fillP many least k (w ++ mk12) ++ fillF many least (k + 1) (cuts x (W ++ List.replicate 6 [49])) = _
    rw [List.length_cons] at h
    rw [fillP_mark (by omega), fillF_cuts W x (k + 1) (by omega), List.map_cons, List.flatten_cons]
    simp only [List.append_assoc]
/-- the law's filling up, by the parts -/
theorem fill_all {least : Nat} {W : List (List Nat)} (h : W ≠ []) : mk12 ++ fillF W.length least 1 ((cuts [] (W ++ List.replicate 6 [49])).drop 1) = (W.map fun x => mk12 ++ pad12 least x).flatten ++ (List.replicate 6 (mk12 ++ [49])).flatten := by
  cases W with
  | nil => exact absurd rfl h
  | cons w W =>
    show mk12 ++ fillF _ least 1 (cuts w (W ++ List.replicate 6 [49])) = _
    rw [fillF_cuts W w 1 (by rw [List.length_cons]; omega), List.map_cons, List.flatten_cons]
    simp only [List.append_assoc]
theorem fillF_app {many least : Nat} : ∀ (a b : List (List Nat)) (k : Nat), fillF many least k (a ++ b) = fillF many least k a ++ fillF many least (k + a.length) b
  | [], b, k => rfl
  | p :: r, b, k => by
    show fillP many least k p ++ fillF many least (k + 1) (r ++ b) = fillP many least k p ++ fillF many least (k + 1) r ++ _
    rw [fillF_app r b (k + 1), List.append_assoc, List.length_cons, show k + 1 + r.length = k + (r.length + 1) by omega]
/-- the walk of the cut: bits, where the part begins, the noughts ahead -/
theorem cutL_step {l : List Nat} {i b t c : Nat} (hb : b ≤ i) (hc : l[i]? = some c) : cutL t ((l.drop b).take (i - b)) (l.drop i) = if c = 49 ∧ 11 ≤ t then ((l.drop b).take (i + 1 - b)) :: cutL 0 ((l.drop (i + 1)).take (i + 1 - (i + 1))) (l.drop (i + 1)) else cutL (tz t c) ((l.drop b).take (i + 1 - b)) (l.drop (i + 1)) := by
  obtain ⟨hi, he⟩ := List.getElem?_eq_some_iff.mp hc
  have e1 : l.drop i = c :: l.drop (i + 1) := by rw [List.drop_eq_getElem_cons hi, he]
  have e2 : (l.drop b).take (i - b) ++ [c] = (l.drop b).take (i + 1 - b) := by
    have : (l.drop b)[i - b]? = some c := by rw [List.getElem?_drop, show b + (i - b) = i by omega, hc]
    rw [show i + 1 - b = i - b + 1 by omega, List.take_add_one, this]
    rfl
  rw [e1]
  show (if c = 49 ∧ 11 ≤ t then ((l.drop b).take (i - b) ++ [c]) :: cutL 0 [] (l.drop (i + 1)) else cutL (tz t c) ((l.drop b).take (i - b) ++ [c]) (l.drop (i + 1))) = _
  rw [e2, Nat.sub_self, List.take_zero]
theorem cutL_sum : ∀ (l : List Nat) (t : Nat) (cur : List Nat), (cutL t cur l).flatten = cur ++ l
  | [], t, cur => by
    show [cur].flatten = cur ++ []
    simp
  | c :: r, t, cur => by
    show (if c = 49 ∧ 11 ≤ t then (cur ++ [c]) :: cutL 0 [] r else cutL (tz t c) (cur ++ [c]) r).flatten = _
    split
    · rw [List.flatten_cons, cutL_sum r 0 []]
      simp
    · rw [cutL_sum r _ _]
      simp
theorem mem_flat_len {p : List Nat} : ∀ {ps : List (List Nat)}, p ∈ ps → p.length ≤ ps.flatten.length
  | q :: ps, h => by
    rw [List.flatten_cons, List.length_append]
    rcases List.mem_cons.mp h with e | e
    · rw [e]
      omega
    · have := mem_flat_len e
      omega
--END
end Fp

set_option Elab.async false
set_option linter.all false
set_option maxRecDepth 100000
set_option maxHeartbeats 4000000
/-! Plain tellings read: the run whose bits stand at a place, the row that is read. -/
namespace Fp
open PySem L2 PyProof.Rows
/-- twenty words of which none begins another one -/
structure PF (W : List (List Nat)) : Prop where
  free : ∀ i, i < 20 → ∀ j, j < 20 → i ≠ j → ¬ W.getD i [] <+: W.getD j []
  pos : ∀ i, i < 20 → 0 < (W.getD i []).length
theorem pref_same {W : List (List Nat)} (h : PF W) {i j : Nat} (hi : i < 20) (hj : j < 20) {M : List Nat} (h1 : W.getD i [] <+: M) (h2 : W.getD j [] <+: M) : i = j := by
  by_cases e : i = j
  · exact e
  · exfalso
    rcases Nat.le_total (W.getD i []).length (W.getD j []).length with z | z
    · exact h.free i hi j hj e (List.prefix_of_prefix_length_le h1 h2 z)
    · exact h.free j hj i hi (fun y => e y.symm) (List.prefix_of_prefix_length_le h2 h1 z)
theorem pref_tail {A B M : List Nat} : A ++ B <+: M ↔ A <+: M ∧ B <+: M.drop A.length := by
  constructor
  · rintro ⟨t, rfl⟩
    refine ⟨⟨B ++ t, by rw [List.append_assoc]⟩, ⟨t, ?_⟩⟩
    rw [List.append_assoc, List.drop_left]
  · rintro ⟨⟨t, rfl⟩, ⟨u, e⟩⟩
    rw [List.drop_left] at e
    exact ⟨u, by rw [List.append_assoc, e]⟩
/-- the first word of a run -/
def hdW (r : Nat) : Nat := if r < 16 then r else 15 + r / 16
theorem hdW_lt {r : Nat} (h : r < 80) : hdW r < 20 := by
  unfold hdW
  split <;> omega
theorem run_parts (W : List (List Nat)) (r : Nat) (M : List Nat) : runT W r <+: M ↔ W.getD (hdW r) [] <+: M ∧ (16 ≤ r → W.getD (r - r / 16 * 16) [] <+: M.drop (W.getD (hdW r) []).length) := by
  unfold runT hdW
  by_cases h : r < 16
  · rw [if_pos h, if_pos h]
    exact ⟨fun x => ⟨x, fun y => absurd y (by omega)⟩, fun x => x.1⟩
  · rw [if_neg h, if_neg h, pref_tail]
    exact ⟨fun x => ⟨x.1, fun _ => x.2⟩, fun x => ⟨x.1, x.2 (by omega)⟩⟩
theorem run_uniq {W : List (List Nat)} (h : PF W) {r s : Nat} (hr : r < 80) (hs : s < 80) {M : List Nat} (h1 : runT W r <+: M) (h2 : runT W s <+: M) : r = s := by
  have a := (run_parts W r M).mp h1
  have b := (run_parts W s M).mp h2
  have e := pref_same h (hdW_lt hr) (hdW_lt hs) a.1 b.1
  have a2 := a.2
  rw [e] at a2
  have b2 := b.2
  have e0 := e
  unfold hdW at e
  by_cases z : r < 16
  · rw [if_pos z] at e
    by_cases y : s < 16
    · rw [if_pos y] at e
      exact e
    · rw [if_neg y] at e
      omega
  · rw [if_neg z] at e
    by_cases y : s < 16
    · rw [if_pos y] at e
      omega
    · rw [if_neg y] at e
      have t := pref_same h (by omega) (by omega) (a2 (by omega)) (b2 (by omega))
      omega
def runAt (W : List (List Nat)) (L : List Nat) (a : Nat) : Option Nat := (List.range 80).find? fun r => (runT W r).isPrefixOf (L.drop a)
theorem runAt_some {W : List (List Nat)} (h : PF W) {L : List Nat} {a r : Nat} : runAt W L a = some r ↔ r < 80 ∧ runT W r <+: L.drop a := by
  constructor
  · intro e
    have h1 := List.find?_some e
    have h2 := List.mem_of_find?_eq_some e
    exact ⟨List.mem_range.mp h2, List.isPrefixOf_iff_prefix.mp h1⟩
  · rintro ⟨h1, h2⟩
    cases e : runAt W L a with
    | none =>
      have := List.find?_eq_none.mp e r (List.mem_range.mpr h1)
      exact absurd (List.isPrefixOf_iff_prefix.mpr h2) (by simpa using this)
    | some s =>
      have h3 := List.find?_some e
      have h4 := List.mem_of_find?_eq_some e
      rw [run_uniq h h1 (List.mem_range.mp h4) h2 (List.isPrefixOf_iff_prefix.mp h3)]
theorem runAt_none {W : List (List Nat)} {L : List Nat} {a : Nat} : runAt W L a = none ↔ ∀ r, r < 80 → ¬ runT W r <+: L.drop a := by
  unfold runAt
  rw [List.find?_eq_none]
  constructor
  · intro h r hr z
    exact absurd (List.isPrefixOf_iff_prefix.mpr z) (by simpa using h r (List.mem_range.mpr hr))
  · intro h r hr z
    exact h r (List.mem_range.mp hr) (List.isPrefixOf_iff_prefix.mp z)
theorem runT_pos {W : List (List Nat)} (h : PF W) {r : Nat} (hr : r < 80) : 0 < (runT W r).length := by
  have := h.pos (hdW r) (hdW_lt hr)
  unfold runT
  unfold hdW at this
  split
  · rename_i z
    rw [if_pos z] at this
    exact this
  · rename_i z
    rw [if_neg z] at this
    rw [List.length_append]
    omega
def cN (d : Bool) : Nat := if d = true then 35 else 46
/-- the row that is read, within so many runs -/
def rdP (W : Bool → List (List Nat)) (m : Nat) (L : List Nat) : Nat → List Nat → Nat → Bool → Option (List Nat × Nat)
  | 0, row, a, _ => some (row, a)
  | f + 1, row, a, d => if row.length < m then (match runAt (W d) L a with
      | none => none
      | some r => if m < row.length + r ∨ (r = 0 ∧ 0 < a) then none else rdP W m L f (row ++ List.replicate r (cN d)) (a + (runT (W d) r).length) (!d))
    else some (row, a)
theorem rdP_full {W : Bool → List (List Nat)} {m : Nat} {L row : List Nat} {a f : Nat} {d : Bool} (h : m ≤ row.length) : rdP W m L f row a d = some (row, a) := by
  cases f with
  | zero => rfl
  | succ f =>
    unfold rdP
    rw [if_neg (by omega)]
theorem rdP_none {W : Bool → List (List Nat)} {m : Nat} {L row : List Nat} {a f : Nat} {d : Bool} (h : row.length < m) (e : runAt (W d) L a = none) : rdP W m L (f + 1) row a d = none := by
  unfold rdP
  rw [if_pos h, e]
theorem rdP_bad {W : Bool → List (List Nat)} {m r : Nat} {L row : List Nat} {a f : Nat} {d : Bool} (h : row.length < m) (e : runAt (W d) L a = some r) (b : m < row.length + r ∨ (r = 0 ∧ 0 < a)) : rdP W m L (f + 1) row a d = none := by
  unfold rdP
  rw [if_pos h, e]
  show (if _ then _ else _) = _
  rw [if_pos b]
theorem rdP_step {W : Bool → List (List Nat)} {m r : Nat} {L row : List Nat} {a f : Nat} {d : Bool} (h : row.length < m) (e : runAt (W d) L a = some r) (b : ¬ (m < row.length + r ∨ (r = 0 ∧ 0 < a))) : rdP W m L (f + 1) row a d = rdP W m L f (row ++ List.replicate r (cN d)) (a + (runT (W d) r).length) (!d) := by
  conv => lhs; unfold rdP
  rw [if_pos h, e]
  show (if _ then _ else _) = _
  rw [if_neg b]
/-- runs told, one behind the other -/
def plF (W : Bool → List (List Nat)) : List Nat → Bool → List Nat
  | [], _ => []
  | r :: rs, d => runT (W d) r ++ plF W rs (!d)
theorem cN_oth (d : Bool) : oth (cN d) = cN (!d) := by cases d <;> rfl
theorem rd_plain {W : Bool → List (List Nat)} (hW : ∀ d, PF (W d)) {m : Nat} (hm : m ≤ 79) : ∀ (rs : List Nat) (f : Nat) (L row : List Nat) (a : Nat) (d : Bool) (behind : List Nat), L.drop a = plF W rs d ++ behind → row.length + rs.sum = m → (∀ x ∈ rs.drop 1, 0 < x) → (rs ≠ [] → 0 < rs.sum) → (0 < a → ∀ x ∈ rs, 0 < x) → rs.length ≤ f →
    rdP W m L f row a d = some (row ++ unr rs (cN d), a + (plF W rs d).length)
  | [], f, L, row, a, d, behind, e, s, _, _, _, _ => by
    rw [List.sum_nil] at s
    rw [rdP_full (by omega)]
    show some (row, a) = some (row ++ [], a + 0)
    rw [List.append_nil, Nat.add_zero]
  | r :: rs, 0, L, row, a, d, behind, e, s, _, _, _, lf => by simp at lf
  | r :: rs, f + 1, L, row, a, d, behind, e, s, ps, ne, pa, lf => by
    rw [List.sum_cons] at s
    have sp := ne (by simp)
    rw [List.sum_cons] at sp
    have hr : runAt (W d) L a = some r := (runAt_some (hW d)).mpr ⟨by omega, by
      rw [e]
      exact ⟨plF W rs (!d) ++ behind, by rw [← List.append_assoc]; rfl⟩⟩
    have r80 : r < 80 := by omega
    have rp := runT_pos (hW d) r80
    rw [rdP_step (by omega) hr (by
      rintro (z | ⟨z, y⟩)
      · omega
      · have := pa y r (List.mem_cons_self ..)
        omega)]
    have e2 : L.drop (a + (runT (W d) r).length) = plF W rs (!d) ++ behind := by
      rw [← List.drop_drop, e]
      show ((runT (W d) r ++ plF W rs (!d)) ++ behind).drop _ = _
      rw [List.append_assoc, List.drop_left]
    have ps2 : ∀ x ∈ rs, 0 < x := ps
    rw [rd_plain hW hm rs f L (row ++ List.replicate r (cN d)) (a + (runT (W d) r).length) (!d) behind e2 (by rw [List.length_append, List.length_replicate]; omega) (fun x hx => ps2 x (List.mem_of_mem_drop hx)) (fun h => by
      cases rs with
      | nil => exact absurd rfl h
      | cons y t =>
        have := ps2 y (List.mem_cons_self ..)
        rw [List.sum_cons]
        omega) (fun _ => ps2) (by rw [List.length_cons] at lf; omega)]
    congr 1
    show (_, _) = (row ++ (List.replicate r (cN d) ++ unr rs (oth (cN d))), a + (runT (W d) r ++ plF W rs (!d)).length)
    rw [cN_oth, List.append_assoc, List.length_append, Nat.add_assoc]
/-- what is read is no longer than the breadth, and as far as bits go -/
theorem rdP_a {W : Bool → List (List Nat)} (hW : ∀ d, PF (W d)) {m : Nat} {L : List Nat} : ∀ (f : Nat) (row : List Nat) (a : Nat) (d : Bool) (r2 : List Nat) (a2 : Nat), a ≤ L.length → row.length ≤ m → rdP W m L f row a d = some (r2, a2) → r2.length ≤ m ∧ a2 ≤ L.length
  | 0, row, a, d, r2, a2, ha, hr, e => by
    have e : some (row, a) = some (r2, a2) := e
    cases e
    exact ⟨hr, ha⟩
  | f + 1, row, a, d, r2, a2, ha, hr, e => by
    by_cases z : row.length < m
    · cases q : runAt (W d) L a with
      | none =>
        rw [rdP_none z q] at e
        cases e
      | some r =>
        by_cases b : m < row.length + r ∨ (r = 0 ∧ 0 < a)
        · rw [rdP_bad z q b] at e
          cases e
        · rw [rdP_step z q b] at e
          have h2 := ((runAt_some (hW d)).mp q).2
          have h3 := h2.length_le
          rw [List.length_drop] at h3
          exact rdP_a hW f _ _ _ _ _ (by omega) (by rw [List.length_append, List.length_replicate]; omega) e
    · rw [rdP_full (by omega)] at e
      cases e
      exact ⟨hr, ha⟩
theorem rdP_row {W : Bool → List (List Nat)} {m : Nat} {L : List Nat} : ∀ (f : Nat) (row : List Nat) (a : Nat) (d : Bool) (r2 : List Nat) (a2 : Nat), Row row → rdP W m L f row a d = some (r2, a2) → Row r2
  | 0, row, a, d, r2, a2, hr, e => by
    have e : some (row, a) = some (r2, a2) := e
    cases e
    exact hr
  | f + 1, row, a, d, r2, a2, hr, e => by
    by_cases z : row.length < m
    · cases q : runAt (W d) L a with
      | none =>
        rw [rdP_none z q] at e
        cases e
      | some r =>
        by_cases b : m < row.length + r ∨ (r = 0 ∧ 0 < a)
        · rw [rdP_bad z q b] at e
          cases e
        · rw [rdP_step z q b] at e
          refine rdP_row f _ _ _ _ _ (fun x hx => ?_) e
          rcases List.mem_append.mp hx with h | h
          · exact hr x h
          · rw [(List.mem_replicate.mp h).2]
            cases d
            · exact .inl rfl
            · exact .inr rfl
    · rw [rdP_full (by omega)] at e
      cases e
      exact hr
/-! ### how the texts ask it -/
theorem take_pref {w M : List Nat} : M.take w.length = w ↔ w <+: M := by
  constructor
  · intro h
    rw [← h]
    exact List.take_prefix _ _
  · rintro ⟨t, rfl⟩
    exact List.take_left
theorem starts_at {l w : List Nat} {a : Nat} (h : a ≤ l.length) : Txt.startswith3 (sOf l) (sOf w) (a : Int) = decide (w <+: l.drop a) := by
  have ef : PySem.fromIndex (sOf l).length (a : Int) = a := by
    rw [sOf_len]
    unfold PySem.fromIndex
    omega
  unfold Txt.startswith3
  rw [ef, StrLaws.subAt_eq, sOf_list, sOf_list, sOf_len, sOf_len]
  rw [Bool.eq_iff_iff, Bool.and_eq_true, decide_eq_true_eq, decide_eq_true_eq, beq_iff_eq, take_pref]
  constructor
  · exact fun x => x.2
  · intro x
    have := x.length_le
    rw [List.length_drop] at this
    exact ⟨by omega, x⟩
theorem cut_at (l : List Nat) (a n : Nat) : cutS (sOf l) (some (a : Int)) (some ((a : Int) + (n : Int))) = sOf ((l.drop a).take n) := by
  rw [show (a : Int) + (n : Int) = ((a + n : Nat) : Int) from rfl]
  unfold cutS
  rw [HT.sIx_nat, HT.sIx_nat, sOf_len, sOf_list]
  congr 1
  by_cases h : a ≤ l.length
  · rw [Nat.min_eq_left h]
    by_cases h2 : a + n ≤ l.length
    · rw [Nat.min_eq_left h2, Nat.add_sub_cancel_left]
    · rw [Nat.min_eq_right (by omega), List.take_of_length_le (by rw [List.length_drop]; exact Nat.le_refl _), List.take_of_length_le (by rw [List.length_drop]; omega)]
  · rw [Nat.min_eq_right (by omega), Nat.min_eq_right (by omega), List.drop_length, List.drop_eq_nil_of_le (by omega), List.take_nil, List.take_nil]
/-! ### bits counted -/
theorem cnt_two : ∀ l : List Nat, cnt 48 l + cnt 49 l = ((l.filter fun c => c == 48 || c == 49).length : Int)
  | [] => rfl
  | c :: r => by
    have ih := cnt_two r
    rw [cnt_cons, cnt_cons, List.filter_cons]
    by_cases h : c = 48
    · subst h
      rw [if_pos rfl, if_neg (by decide), if_pos (by decide), List.length_cons]
      omega
    · by_cases h2 : c = 49
      · subst h2
        rw [if_neg (by decide), if_pos rfl, if_pos (by decide), List.length_cons]
        omega
      · rw [if_neg h, if_neg h2, if_neg (by simp [h, h2])]
        omega
def isB (l : List Nat) : Bool := l.all fun c => c == 48 || c == 49
theorem isB_iff {l : List Nat} : isB l = true ↔ Bts l := by
  unfold isB Bts
  rw [List.all_eq_true]
  constructor
  · intro h c hc
    have := h c hc
    rw [Bool.or_eq_true, beq_iff_eq, beq_iff_eq] at this
    exact this
  · intro h c hc
    rw [Bool.or_eq_true, beq_iff_eq, beq_iff_eq]
    exact h c hc
theorem bits_counted (l : List Nat) : decide (V.int (Txt.count (sOf l) (Str.ofString "0") + Txt.count (sOf l) (Str.ofString "1")) = V.int ((sOf l).length : Int)) = isB l := by
  have e0 : Txt.count (sOf l) (Str.ofString "0") = cnt 48 l := by
    have := count_is (sOf l) 48
    rw [sOf_list] at this
    exact this
  have e1 : Txt.count (sOf l) (Str.ofString "1") = cnt 49 l := by
    have := count_is (sOf l) 49
    rw [sOf_list] at this
    exact this
  rw [e0, e1, cnt_two, sOf_len, Bool.eq_iff_iff, decide_eq_true_eq, vint]
  unfold isB
  rw [List.all_eq_true]
  have key : (l.filter fun c => c == 48 || c == 49).length = l.length ↔ ∀ c ∈ l, (c == 48 || c == 49) = true := List.length_filter_eq_length_iff
  rw [← key]
  omega
/-- a test of two parts whose second is known where the first holds -/
theorem iteAndNo {p A B : Prop} [Decidable p] (b : B) (h : p → B → A) : if decide p = true then A else B := by
  by_cases z : p
  · rw [decide_eq_true z]
    exact h z b
  · rw [decide_eq_false z]
    exact b
end Fp

set_option Elab.async false
set_option linter.all false
set_option maxRecDepth 100000
set_option maxHeartbeats 4000000
/-! Tellings by the row above read: two ways that come to the same. -/
namespace Fp
open PySem L2 PyProof.Rows
def stpDec : (x y : Stp) → Decidable (x = y)
  | .passed, .passed => .isTrue rfl
  | .near d, .near e => if h : d = e then .isTrue (by rw [h]) else .isFalse (fun z => h (Stp.near.inj z))
  | .plain a b, .plain c d => if h : a = c ∧ b = d then .isTrue (by rw [h.1, h.2]) else .isFalse (fun z => h (Stp.plain.inj z))
  | .passed, .near _ => .isFalse (fun z => by cases z)
  | .passed, .plain _ _ => .isFalse (fun z => by cases z)
  | .near _, .passed => .isFalse (fun z => by cases z)
  | .near _, .plain _ _ => .isFalse (fun z => by cases z)
  | .plain _ _, .passed => .isFalse (fun z => by cases z)
  | .plain _ _, .near _ => .isFalse (fun z => by cases z)
instance : DecidableEq Stp := stpDec
/-! ### what a step hangs on -/
theorem stA_same {l m : List Nat} {s c k : Nat} (hs : s ≤ l.length) (e : m.length = l.length) (hk : stA l s c ≤ k) (ag : ∀ i, i ≤ k → m[i]? = l[i]?) : stA m s c = stA l s c := by
  have sp := fp_spec (l := l) (c := oth c) hs
  unfold stA at hk ⊢
  exact fp_uniq (by omega) sp.1 (by omega) (fun v h1 h2 => by rw [ag v (by omega)]; exact sp.2.2.1 v h1 h2) (fun h => by rw [ag _ hk]; exact sp.2.2.2 (by omega))
theorem stE_same {l m : List Nat} {s c : Nat} (hs : s ≤ l.length) (e : m.length = l.length) (ag : ∀ i, i ≤ stE l s c → m[i]? = l[i]?) : stA m s c = stA l s c ∧ stE m s c = stE l s c := by
  have h2 := stE_le (c := c) hs
  have ea := stA_same hs e h2.1 ag
  refine ⟨ea, ?_⟩
  unfold stE at h2 ag ⊢
  rw [ea]
  by_cases z : stA l s c + 1 ≤ l.length
  · have sp := fp_spec (l := l) (c := c) z
    exact fp_uniq (by omega) sp.1 (by omega) (fun v h1 h2 => by rw [ag v (by omega)]; exact sp.2.2.1 v h1 h2) (fun h => by rw [ag _ (Nat.le_refl _)]; exact sp.2.2.2 (by omega))
  · unfold fp
    rw [if_neg (by omega), if_neg (by omega)]
    exact e
theorem local_step {ab l m : List Nat} {s c : Nat} (hs : s ≤ l.length) (e : m.length = l.length) (ea : ab.length = l.length) (ag : ∀ i, i ≤ ledN ab l s c → m[i]? = l[i]?) : stepAt ab m s c = stepAt ab l s c ∧ ledN ab m s c = ledN ab l s c := by
  by_cases p : stC ab s c < stA l s c
  · have el : ledN ab l s c = stC ab s c := by
      unfold ledN
      rw [if_pos p]
    rw [el] at ag
    have a1 := stA_le (c := c) hs
    have pm : stC ab s c < stA m s c := by
      rcases Nat.lt_or_ge (stC ab s c) (stA m s c) with z | z
      · exact z
      · exfalso
        have sm := fp_spec (l := m) (c := oth c) (s := s) (by omega)
        have sl := fp_spec (l := l) (c := oth c) hs
        unfold stA at z p a1
        have h1 := sm.2.2.2 (by omega)
        rw [ag _ z] at h1
        exact sl.2.2.1 _ sm.1 (by omega) h1
    unfold stepAt ledN
    rw [if_pos p, if_pos pm, if_pos p, if_pos pm]
    exact ⟨rfl, rfl⟩
  · by_cases nr : NearP ab l s c
    · have el : ledN ab l s c = stA l s c := by
        unfold ledN
        rw [if_neg p, if_pos nr]
      rw [el] at ag
      have e1 := stA_same hs e (Nat.le_refl _) ag
      have nm : NearP ab m s c := by
        unfold NearP at nr ⊢
        rw [e1]
        exact nr
      unfold stepAt ledN
      rw [e1, if_neg p, if_neg p, if_pos nr, if_pos nm, if_neg p, if_neg p, if_pos nr, if_pos nm]
      exact ⟨rfl, rfl⟩
    · have el : ledN ab l s c = stE l s c := by
        unfold ledN
        rw [if_neg p, if_neg nr]
      rw [el] at ag
      obtain ⟨e1, e2⟩ := stE_same hs e ag
      have nm : ¬ NearP ab m s c := by
        unfold NearP at nr ⊢
        rw [e1]
        exact nr
      unfold stepAt ledN
      rw [e1, e2, if_neg p, if_neg p, if_neg nr, if_neg nm, if_neg p, if_neg p, if_neg nr, if_neg nm]
      exact ⟨rfl, rfl⟩
/-- the cell to which a step leads has the colour behind it -/
theorem end_cell {ab l : List Nat} {s c : Nat} (hr : Row l) (hc : Cell c) (hs : s ≤ l.length) (ea : ab.length = l.length) (h : ledN ab l s c < l.length) : l[ledN ab l s c]? = some (colB c (stepAt ab l s c)) := by
  have h1 := stA_le (c := c) hs
  have h3 := stC_ge (ab := ab) (c := c) (by omega : s ≤ ab.length)
  by_cases p : stC ab s c < stA l s c
  · have el : ledN ab l s c = stC ab s c := by
      unfold ledN
      rw [if_pos p]
    have es : stepAt ab l s c = .passed := if_pos p
    rw [el] at h ⊢
    rw [es]
    show _ = some c
    have sl := fp_spec (l := l) (c := oth c) hs
    have no := sl.2.2.1 (stC ab s c) h3.1 p
    rw [List.getElem?_eq_getElem h] at no ⊢
    exact congrArg some (cell_ne hc (hr _ (List.getElem_mem h)) (fun z => no (by rw [z])))
  · by_cases nr : NearP ab l s c
    · have el : ledN ab l s c = stA l s c := by
        unfold ledN
        rw [if_neg p, if_pos nr]
      have es : stepAt ab l s c = .near ((stA l s c : Int) - (fch ab s c : Int)) := by
        unfold stepAt
        rw [if_neg p, if_pos nr]
      rw [el] at h ⊢
      rw [es]
      exact (fp_spec (l := l) (c := oth c) hs).2.2.2 h
    · have el : ledN ab l s c = stE l s c := by
        unfold ledN
        rw [if_neg p, if_neg nr]
      have es : stepAt ab l s c = .plain (stA l s c - (s - 1)) (stE l s c - stA l s c) := by
        unfold stepAt
        rw [if_neg p, if_neg nr]
      rw [el] at h ⊢
      rw [es]
      show _ = some c
      unfold stE at h ⊢
      by_cases z : stA l s c + 1 ≤ l.length
      · exact (fp_spec (l := l) (c := c) z).2.2.2 h
      · unfold fp at h
        rw [if_neg z] at h
        omega
/-! ### cells that a step tells -/
def ext (ab : List Nat) (s c : Nat) (st : Stp) (k : Nat) : List Nat := match st with
  | .plain x y => List.replicate x c ++ List.replicate y (oth c)
  | st => List.replicate (ledT ab s c st - (k : Int)).toNat c
theorem take_rep {l : List Nat} {c k e : Nat} (h1 : k ≤ e) (h2 : e ≤ l.length) (h : ∀ i, k ≤ i → i < e → l[i]? = some c) : l.take e = l.take k ++ List.replicate (e - k) c := by
  apply List.ext_getElem?
  intro i
  by_cases hi : i < e
  · rw [List.getElem?_take_of_lt hi]
    by_cases hk : i < k
    · rw [List.getElem?_append_left (by rw [List.length_take]; omega), List.getElem?_take_of_lt hk]
    · rw [List.getElem?_append_right (by rw [List.length_take]; omega), h i (by omega) hi, List.length_take, List.getElem?_replicate, if_pos (by omega)]
  · rw [List.getElem?_eq_none (by rw [List.length_take]; omega), List.getElem?_eq_none (by rw [List.length_append, List.length_take, List.length_replicate]; omega)]
theorem own_cells {l : List Nat} {s c i : Nat} (hr : Row l) (hc : Cell c) (hs : s ≤ l.length) (h1 : s ≤ i) (h2 : i < stA l s c) : l[i]? = some c := by
  have sl := fp_spec (l := l) (c := oth c) hs
  unfold stA at h2
  have no := sl.2.2.1 i h1 h2
  have hl : i < l.length := by omega
  rw [List.getElem?_eq_getElem hl] at no ⊢
  exact congrArg some (cell_ne hc (hr _ (List.getElem_mem hl)) (fun z => no (by rw [z])))
theorem ext_take {ab l : List Nat} {s c : Nat} (hr : Row l) (hc : Cell c) (hs : s ≤ l.length) (ea : ab.length = l.length) (h0 : 1 ≤ s → l[s - 1]? = some c) : l.take (s - 1) ++ ext ab s c (stepAt ab l s c) (s - 1) = l.take (ledN ab l s c) := by
  have h1 := stA_le (c := c) hs
  have h2 := stE_le (c := c) hs
  have h3 := stC_ge (ab := ab) (c := c) (by omega : s ≤ ab.length)
  have lt := ledT_step (ab := ab) (c := c) hs
  have cells : ∀ i, s - 1 ≤ i → i < stA l s c → l[i]? = some c := fun i a b => by
    by_cases z : s ≤ i
    · exact own_cells hr hc hs z b
    · have e : i = s - 1 := by omega
      rw [e]
      exact h0 (by omega)
  by_cases p : stC ab s c < stA l s c
  · have el : ledN ab l s c = stC ab s c := by
      unfold ledN
      rw [if_pos p]
    have es : stepAt ab l s c = .passed := if_pos p
    rw [es] at lt ⊢
    rw [el] at lt ⊢
    rw [take_rep (k := s - 1) (e := stC ab s c) (c := c) (by omega) (by omega) (fun i a b => cells i a (by omega))]
    show _ ++ List.replicate (ledT ab s c .passed - ((s - 1 : Nat) : Int)).toNat c = _
    rw [lt, show ((stC ab s c : Int) - ((s - 1 : Nat) : Int)).toNat = stC ab s c - (s - 1) by omega]
  · by_cases nr : NearP ab l s c
    · have el : ledN ab l s c = stA l s c := by
        unfold ledN
        rw [if_neg p, if_pos nr]
      have es : stepAt ab l s c = .near ((stA l s c : Int) - (fch ab s c : Int)) := by
        unfold stepAt
        rw [if_neg p, if_pos nr]
      rw [es] at lt ⊢
      rw [el] at lt ⊢
      rw [take_rep (k := s - 1) (e := stA l s c) (c := c) (by omega) (by omega) (fun i a b => cells i a b)]
      show _ ++ List.replicate (ledT ab s c (.near _) - ((s - 1 : Nat) : Int)).toNat c = _
      rw [lt, show ((stA l s c : Int) - ((s - 1 : Nat) : Int)).toNat = stA l s c - (s - 1) by omega]
    · have el : ledN ab l s c = stE l s c := by
        unfold ledN
        rw [if_neg p, if_neg nr]
      have es : stepAt ab l s c = .plain (stA l s c - (s - 1)) (stE l s c - stA l s c) := by
        unfold stepAt
        rw [if_neg p, if_neg nr]
      rw [es, el]
      show l.take (s - 1) ++ (List.replicate (stA l s c - (s - 1)) c ++ List.replicate (stE l s c - stA l s c) (oth c)) = _
      rw [← List.append_assoc, ← take_rep (k := s - 1) (e := stA l s c) (by omega) (by omega) cells]
      rw [take_rep (k := stA l s c) (e := stE l s c) (c := oth c) (by omega) (by omega)]
      intro i a b
      have hl : i < l.length := by omega
      by_cases z : i = stA l s c
      · rw [z]
        exact (fp_spec (l := l) (c := oth c) hs).2.2.2 (by show stA l s c < l.length; omega)
      · have b' : i < fp l c (stA l s c + 1) := b
        have no := (fp_spec (l := l) (c := c) (s := stA l s c + 1) (by omega)).2.2.1 i (by omega) b'
        rw [List.getElem?_eq_getElem hl] at no ⊢
        have rc := hr _ (List.getElem_mem hl)
        have : l[i] = oth c := cell_ne (oth_cell c) rc (by rw [oth_oth hc]; exact fun z => no (by rw [z]))
        rw [this]
theorem ext_len {ab : List Nat} {s c e : Nat} {st : Stp} (h : ledT ab s c st = (e : Int)) (hs : s - 1 ≤ e) : (ext ab s c st (s - 1)).length = e - (s - 1) := by
  cases st with
  | plain x y =>
    have h : ((s - 1 : Nat) : Int) + (x : Int) + (y : Int) = (e : Int) := h
    show (List.replicate x c ++ List.replicate y (oth c)).length = _
    rw [List.length_append, List.length_replicate, List.length_replicate]
    omega
  | near d =>
    show (List.replicate (ledT ab s c (.near d) - ((s - 1 : Nat) : Int)).toNat c).length = _
    rw [List.length_replicate, h]
    omega
  | passed =>
    show (List.replicate (ledT ab s c .passed - ((s - 1 : Nat) : Int)).toNat c).length = _
    rw [List.length_replicate, h]
    omega
theorem ext_row {ab : List Nat} {s c k : Nat} {st : Stp} (hc : Cell c) : Row (ext ab s c st k) := by
  cases st with
  | plain x y =>
    intro z hz
    rcases List.mem_append.mp (show z ∈ List.replicate x c ++ List.replicate y (oth c) from hz) with h | h
    · rw [(List.mem_replicate.mp h).2]
      exact hc
    · rw [(List.mem_replicate.mp h).2]
      exact oth_cell c
  | near d => exact Row.rep hc
  | passed => exact Row.rep hc
def fillR (n : Nat) (l : List Nat) (c : Nat) : List Nat := (l ++ List.replicate (n - l.length) c).take n
theorem fillR_len (n : Nat) (l : List Nat) (c : Nat) : (fillR n l c).length = n := by
  unfold fillR
  rw [List.length_take, List.length_append, List.length_replicate]
  omega
theorem fillR_low {n : Nat} {l : List Nat} {c i : Nat} (h : i < l.length) (hn : i < n) : (fillR n l c)[i]? = l[i]? := by
  unfold fillR
  rw [List.getElem?_take_of_lt hn, List.getElem?_append_left h]
theorem fillR_high {n : Nat} {l : List Nat} {c i : Nat} (h : l.length ≤ i) (hn : i < n) : (fillR n l c)[i]? = some c := by
  unfold fillR
  rw [List.getElem?_take_of_lt hn, List.getElem?_append_right h, List.getElem?_replicate, if_pos (by omega)]
/-! ### codes of steps -/
def okSt (m : Nat) : Stp → Prop
  | .passed => True
  | .near d => -3 ≤ d ∧ d ≤ 3
  | .plain a b => a ≤ m ∧ b ≤ m
theorem okSt_at {ab l : List Nat} {s c : Nat} (h : s ≤ l.length) : okSt l.length (stepAt ab l s c) := by
  have h1 := stA_le (c := c) h
  have h2 := stE_le (c := c) h
  unfold stepAt
  split
  · exact trivial
  · split
    · rename_i z
      unfold NearP at z
      exact ⟨by omega, by omega⟩
    · exact ⟨by omega, by omega⟩
structure Cod (n : Nat) (B : Nat → Stp → List Nat) (D : Nat → List Nat → Nat → Option Stp) : Prop where
  pre : ∀ c L a st, Cell c → D c L a = some st → B c st <+: L.drop a
  get : ∀ c L a st, Cell c → okSt n st → B c st <+: L.drop a → D c L a = some st
variable {n : Nat} {B : Nat → Stp → List Nat} {D : Nat → List Nat → Nat → Option Stp}
/-- each step held against what is told there -/
def rdQ (B : Nat → Stp → List Nat) (D : Nat → List Nat → Nat → Option Stp) (ab L : List Nat) : Nat → List Nat → Nat → Nat → Nat → Option (List Nat × Nat)
  | 0, row, _, _, a => some (row, a)
  | f + 1, row, s, c, a => if s ≤ ab.length then (match D c L a with
      | none => none
      | some st => if stepAt ab (fillR ab.length (row ++ ext ab s c st row.length) (colB c st)) s c = st then rdQ B D ab L f (row ++ ext ab s c st row.length) ((ledT ab s c st).toNat + 1) (colB c st) (a + (B c st).length) else none)
    else some (row, a)
/-- steps followed, however told -/
def rdA (B : Nat → Stp → List Nat) (D : Nat → List Nat → Nat → Option Stp) (ab L : List Nat) : Nat → List Nat → Nat → Nat → Nat → Option (List Nat × Nat)
  | 0, row, _, _, a => some (row, a)
  | f + 1, row, s, c, a => if s ≤ ab.length then (match D c L a with
      | none => none
      | some st => if (s : Int) - 1 < ledT ab s c st ∧ ledT ab s c st ≤ (ab.length : Int) then rdA B D ab L f (row ++ ext ab s c st row.length) ((ledT ab s c st).toNat + 1) (colB c st) (a + (B c st).length) else none)
    else some (row, a)
section
variable {ab L row : List Nat} {f s c a : Nat} {st : Stp}
theorem rdQ_full (h : ab.length < s) : rdQ B D ab L f row s c a = some (row, a) := by
  cases f with
  | zero => rfl
  | succ f =>
    unfold rdQ
    rw [if_neg (by omega)]
theorem rdQ_none (h : s ≤ ab.length) (e : D c L a = none) : rdQ B D ab L (f + 1) row s c a = none := by
  unfold rdQ
  rw [if_pos h, e]
theorem rdQ_bad (h : s ≤ ab.length) (e : D c L a = some st) (b : stepAt ab (fillR ab.length (row ++ ext ab s c st row.length) (colB c st)) s c ≠ st) : rdQ B D ab L (f + 1) row s c a = none := by
  unfold rdQ
  rw [if_pos h, e]
  show (if _ then _ else _) = _
  rw [if_neg b]
theorem rdQ_step (h : s ≤ ab.length) (e : D c L a = some st) (b : stepAt ab (fillR ab.length (row ++ ext ab s c st row.length) (colB c st)) s c = st) : rdQ B D ab L (f + 1) row s c a = rdQ B D ab L f (row ++ ext ab s c st row.length) ((ledT ab s c st).toNat + 1) (colB c st) (a + (B c st).length) := by
  conv => lhs; unfold rdQ
  rw [if_pos h, e]
  show (if _ then _ else _) = _
  rw [if_pos b]
theorem rdA_full (h : ab.length < s) : rdA B D ab L f row s c a = some (row, a) := by
  cases f with
  | zero => rfl
  | succ f =>
    unfold rdA
    rw [if_neg (by omega)]
theorem rdA_none (h : s ≤ ab.length) (e : D c L a = none) : rdA B D ab L (f + 1) row s c a = none := by
  unfold rdA
  rw [if_pos h, e]
theorem rdA_bad (h : s ≤ ab.length) (e : D c L a = some st) (b : ¬ ((s : Int) - 1 < ledT ab s c st ∧ ledT ab s c st ≤ (ab.length : Int))) : rdA B D ab L (f + 1) row s c a = none := by
  unfold rdA
  rw [if_pos h, e]
  show (if _ then _ else _) = _
  rw [if_neg b]
theorem rdA_step (h : s ≤ ab.length) (e : D c L a = some st) (b : (s : Int) - 1 < ledT ab s c st ∧ ledT ab s c st ≤ (ab.length : Int)) : rdA B D ab L (f + 1) row s c a = rdA B D ab L f (row ++ ext ab s c st row.length) ((ledT ab s c st).toNat + 1) (colB c st) (a + (B c st).length) := by
  conv => lhs; unfold rdA
  rw [if_pos h, e]
  show (if _ then _ else _) = _
  rw [if_pos b]
end
def encA (B : Nat → Stp → List Nat) (ab l : List Nat) (s c : Nat) : List Nat := ((stepsAt ab l s c).map fun x => B x.2 x.1).flatten
theorem encA_go {ab l : List Nat} {s c : Nat} (e : ab.length = l.length) (h : s ≤ l.length) : encA B ab l s c = B c (stepAt ab l s c) ++ encA B ab l (ledN ab l s c + 1) (colB c (stepAt ab l s c)) := by
  unfold encA
  rw [stepsAt_go e h, List.map_cons, List.flatten_cons]
theorem encA_end {ab l : List Nat} {s c : Nat} (h : l.length < s) : encA B ab l s c = [] := by
  unfold encA
  rw [stepsAt_end h]
  rfl
theorem drop_pref {w L : List Nat} {a : Nat} (h : w <+: L.drop a) : L.drop a = w ++ L.drop (a + w.length) := by
  obtain ⟨t, e⟩ := h
  rw [← e, ← List.drop_drop, ← e, List.drop_left]
/-- the filled row and the row read are alike as far as the step hangs on them -/
theorem fill_agree {l X : List Nat} {e d : Nat} (lX : X.length = e) (en : e ≤ l.length) (ht : l.take e = X) (hd : e < l.length → l[e]? = some d) : ∀ i, i ≤ e → (fillR l.length X d)[i]? = l[i]? := fun i hi => by
  by_cases z : i < e
  · rw [fillR_low (by omega) (by omega), ← ht, List.getElem?_take_of_lt z]
  · have : i = e := by omega
    subst this
    by_cases y : i < l.length
    · rw [fillR_high (by omega) y, hd y]
    · rw [List.getElem?_eq_none (by rw [fillR_len]; omega), List.getElem?_eq_none (by omega)]
theorem readQ (C : Cod n B D) {ab L : List Nat} (ln : ab.length = n) : ∀ (f : Nat) (row : List Nat) (s c a : Nat) (l : List Nat) (a2 : Nat), Cell c → row.length = s - 1 → s ≤ n + 1 → n + 1 ≤ f + s → rdQ B D ab L f row s c a = some (l, a2) →
    l.length = n ∧ l.take (s - 1) = row ∧ (1 ≤ s → s ≤ n → l[s - 1]? = some c) ∧ L.drop a = encA B ab l s c ++ L.drop a2 ∧ a2 = a + (encA B ab l s c).length ∧ rdA B D ab L f row s c a = some (l, a2)
  | f, row, s, c, a, l, a2, hc, lr, hs, hf, e => by
    by_cases z : s ≤ ab.length
    · obtain ⟨g, rfl⟩ : ∃ g, f = g + 1 := ⟨f - 1, by omega⟩
      cases d : D c L a with
      | none =>
        rw [rdQ_none z d] at e
        cases e
      | some st =>
        by_cases b : stepAt ab (fillR ab.length (row ++ ext ab s c st row.length) (colB c st)) s c = st
        · rw [rdQ_step z d b] at e
          rw [lr] at b e
          generalize hF : fillR ab.length (row ++ ext ab s c st (s - 1)) (colB c st) = F at b
          have lF : F.length = n := by rw [← hF, fillR_len, ln]
          have sF : s ≤ F.length := by omega
          have lt := ledT_step (ab := ab) (l := F) (c := c) sF
          rw [b] at lt
          have rng := ledN_le (ab := ab) (l := F) (c := c) sF (by omega)
          generalize hE : ledN ab F s c = E at lt rng
          have lX : (row ++ ext ab s c st (s - 1)).length = E := by
            rw [List.length_append, ext_len lt (by omega), lr]
            omega
          rw [lt, Int.toNat_natCast] at e
          have ih := readQ C ln g _ _ _ _ l a2 (colB_cell hc st) (by rw [lX]; rfl) (by omega) (by omega) e
          obtain ⟨i1, i2, i3, i4, i5, i6⟩ := ih
          have i2 : l.take E = row ++ ext ab s c st (s - 1) := i2
          have i3 : E < n → l[E]? = some (colB c st) := fun h => i3 (by omega) (by omega)
          have ag : ∀ i, i ≤ ledN ab F s c → l[i]? = F[i]? := fun i hi => by
            rw [hE] at hi
            have := fill_agree (d := colB c st) lX (by omega) i2 (fun h => i3 (by omega)) i hi
            rw [← this, ← hF, i1, ln]
          obtain ⟨q1, q2⟩ := local_step (ab := ab) (l := F) (m := l) sF (by omega) (by omega) ag
          rw [b] at q1
          rw [hE] at q2
          have eg := encA_go (B := B) (ab := ab) (l := l) (s := s) (c := c) (by omega) (by omega)
          rw [q1, q2] at eg
          have pr := C.pre c L a st hc d
          refine ⟨i1, ?_, fun s1 _ => ?_, ?_, ?_, ?_⟩
          · have h1 := congrArg (List.take (s - 1)) i2
            rw [List.take_take, Nat.min_eq_left (by omega), List.take_left' lr] at h1
            exact h1
          · have xs : (row ++ ext ab s c st (s - 1))[s - 1]? = some c := by
              rw [List.getElem?_append_right (by omega), lr, Nat.sub_self]
              have ok := stA_le (l := F) (c := c) sF
              cases st with
              | plain x y =>
                have x1 : 1 ≤ x := by
                  unfold stepAt at b
                  split at b
                  · cases b
                  · split at b
                    · cases b
                    · injection b with b1 b2
                      omega
                show (List.replicate x c ++ List.replicate y (oth c))[0]? = some c
                rw [List.getElem?_append_left (by rw [List.length_replicate]; omega), List.getElem?_replicate, if_pos (by omega)]
              | near dd =>
                show (List.replicate (ledT ab s c (.near dd) - ((s - 1 : Nat) : Int)).toNat c)[0]? = some c
                rw [lt, List.getElem?_replicate, if_pos (by omega)]
              | passed =>
                show (List.replicate (ledT ab s c .passed - ((s - 1 : Nat) : Int)).toNat c)[0]? = some c
                rw [lt, List.getElem?_replicate, if_pos (by omega)]
            rw [← i2, List.getElem?_take_of_lt (by omega)] at xs
            exact xs
          · rw [eg, drop_pref pr, i4, List.append_assoc]
          · rw [eg, i5, List.length_append]
            omega
          · rw [rdA_step z d ⟨by rw [lt]; omega, by rw [lt]; omega⟩, lr, lt, Int.toNat_natCast]
            exact i6
        · rw [rdQ_bad z d b] at e
          cases e
    · rw [rdQ_full (by omega)] at e
      cases e
      refine ⟨by omega, ?_, fun _ h => absurd h (by omega), ?_, ?_, rdA_full (by omega)⟩
      · exact List.take_of_length_le (by omega)
      · rw [encA_end (by omega)]
        rfl
      · rw [encA_end (by omega)]
        rfl
termination_by f => f
theorem rdA_spec {ab L : List Nat} (ln : ab.length = n) : ∀ (f : Nat) (row : List Nat) (s c a : Nat) (l : List Nat) (a2 : Nat), Cell c → Row row → row.length = s - 1 → s ≤ n + 1 → n + 1 ≤ f + s → rdA B D ab L f row s c a = some (l, a2) → l.length = n ∧ l.take (s - 1) = row ∧ Row l
  | f, row, s, c, a, l, a2, hc, rr, lr, hs, hf, e => by
    by_cases z : s ≤ ab.length
    · obtain ⟨g, rfl⟩ : ∃ g, f = g + 1 := ⟨f - 1, by omega⟩
      cases d : D c L a with
      | none =>
        rw [rdA_none z d] at e
        cases e
      | some st =>
        by_cases b : (s : Int) - 1 < ledT ab s c st ∧ ledT ab s c st ≤ (ab.length : Int)
        · rw [rdA_step z d b, lr] at e
          obtain ⟨E, hE⟩ := Int.eq_ofNat_of_zero_le (show 0 ≤ ledT ab s c st by omega)
          rw [hE] at b
          have lX : (row ++ ext ab s c st (s - 1)).length = E := by
            rw [List.length_append, ext_len hE (by omega), lr]
            omega
          rw [hE, Int.toNat_natCast] at e
          have rX : Row (row ++ ext ab s c st (s - 1)) := fun x hx => by
            rcases List.mem_append.mp hx with h | h
            · exact rr x h
            · exact ext_row hc x h
          obtain ⟨i1, i2, i3⟩ := rdA_spec ln g _ _ _ _ l a2 (colB_cell hc st) rX (by rw [lX]; rfl) (by omega) (by omega) e
          refine ⟨i1, ?_, i3⟩
          have i2 : l.take E = row ++ ext ab s c st (s - 1) := i2
          have h1 := congrArg (List.take (s - 1)) i2
          rw [List.take_take, Nat.min_eq_left (by omega), List.take_left' lr] at h1
          exact h1
        · rw [rdA_bad z d b] at e
          cases e
    · rw [rdA_full (by omega)] at e
      cases e
      exact ⟨by omega, List.take_of_length_le (by omega), rr⟩
termination_by f => f
/-- where bits go on with the telling of a row from there, that row is read -/
theorem readBack (C : Cod n B D) {ab L l : List Nat} (ln : ab.length = n) (ll : l.length = n) (rl : Row l) : ∀ (f s c a : Nat) (rest : List Nat), Cell c → s ≤ n + 1 → n + 1 ≤ f + s → (1 ≤ s → s ≤ n → l[s - 1]? = some c) → L.drop a = encA B ab l s c ++ rest → rdQ B D ab L f (l.take (s - 1)) s c a = some (l, a + (encA B ab l s c).length)
  | f, s, c, a, rest, hc, hs, hf, h0, e => by
    by_cases z : s ≤ n
    · obtain ⟨g, rfl⟩ : ∃ g, f = g + 1 := ⟨f - 1, by omega⟩
      have sl : s ≤ l.length := by omega
      have eg := encA_go (B := B) (ab := ab) (l := l) (s := s) (c := c) (by omega) sl
      have lt := ledT_step (ab := ab) (l := l) (c := c) sl
      have rng := ledN_le (ab := ab) (l := l) (c := c) sl (by omega)
      have xt := ext_take (ab := ab) rl hc sl (by omega) (fun h => h0 h z)
      have ec := end_cell (ab := ab) rl hc sl (by omega)
      have ok := okSt_at (ab := ab) (c := c) sl
      rw [ll] at ok
      have d : D c L a = some (stepAt ab l s c) := C.get c L a _ hc ok (by
        rw [e, eg, List.append_assoc]
        exact ⟨_, rfl⟩)
      have lk : (l.take (s - 1)).length = s - 1 := by
        rw [List.length_take]
        omega
      have b : stepAt ab (fillR ab.length (l.take (s - 1) ++ ext ab s c (stepAt ab l s c) (l.take (s - 1)).length) (colB c (stepAt ab l s c))) s c = stepAt ab l s c := by
        rw [lk, xt, ln, ← ll]
        exact (local_step (m := fillR l.length (l.take (ledN ab l s c)) (colB c (stepAt ab l s c))) sl (by rw [fillR_len]) (by omega) (fill_agree (by rw [List.length_take]; omega) (by omega) rfl ec)).1
      rw [rdQ_step (by omega) d b, lk, xt, lt, Int.toNat_natCast]
      have ih := readBack C ln ll rl g (ledN ab l s c + 1) (colB c (stepAt ab l s c)) (a + (B c (stepAt ab l s c)).length) rest (colB_cell hc _) (by omega) (by omega) (fun _ h => ec (by omega)) (by
        rw [← List.drop_drop, e, eg, List.append_assoc, List.drop_left])
      rw [show ledN ab l s c + 1 - 1 = ledN ab l s c from rfl] at ih
      rw [ih, eg, List.length_append, Nat.add_assoc]
    · rw [rdQ_full (by omega), encA_end (by omega), List.take_of_length_le (by omega)]
      rfl
termination_by f => f
def rdS (B : Nat → Stp → List Nat) (D : Nat → List Nat → Nat → Option Stp) (ab L : List Nat) : Option (List Nat × Nat) := rdQ B D ab L (ab.length + 1) [] 0 46 0
def encL (B : Nat → Stp → List Nat) (ab l : List Nat) : List Nat := ((stepsL ab l).map fun x => B x.2 x.1).flatten
theorem encL_is (ab l : List Nat) : encL B ab l = encA B ab l 0 46 := rfl
/-- the two ways are one -/
theorem two_ways (C : Cod n B D) {ab L : List Nat} (ln : ab.length = n) : (∀ l a2, rdS B D ab L = some (l, a2) ↔ rdA B D ab L (n + 1) [] 0 46 0 = some (l, a2) ∧ encL B ab l = L.take a2) := by
  intro l a2
  constructor
  · intro e
    unfold rdS at e
    rw [ln] at e
    obtain ⟨i1, i2, i3, i4, i5, i6⟩ := readQ C ln (n + 1) [] 0 46 0 l a2 (.inl rfl) rfl (by omega) (by omega) e
    refine ⟨i6, ?_⟩
    rw [encL_is]
    rw [List.drop_zero] at i4
    rw [Nat.zero_add] at i5
    have := congrArg (List.take a2) i4
    rw [List.take_left' i5.symm] at this
    exact this.symm
  · rintro ⟨e, h⟩
    obtain ⟨i1, i2, i3⟩ := rdA_spec ln (n + 1) [] 0 46 0 l a2 (.inl rfl) Row.nil rfl (by omega) (by omega) e
    have h2 : L.drop 0 = encA B ab l 0 46 ++ L.drop a2 := by
      rw [List.drop_zero, ← encL_is, h, List.take_append_drop]
    have back := readBack C ln i1 i3 (n + 1) 0 46 0 _ (.inl rfl) (by omega) (by omega) (fun h => absurd h (by omega)) h2
    unfold rdS
    rw [ln]
    have back : rdQ B D ab L (n + 1) [] 0 46 0 = some (l, 0 + (encA B ab l 0 46).length) := back
    obtain ⟨_, _, _, _, _, i6⟩ := readQ C ln (n + 1) [] 0 46 0 l _ (.inl rfl) rfl (by omega) (by omega) back
    rw [e] at i6
    rw [back, ← i6]
theorem rdS_row (C : Cod n B D) {ab L : List Nat} (ln : ab.length = n) {l : List Nat} {a2 : Nat} (h : rdS B D ab L = some (l, a2)) : l.length = n ∧ Row l := by
  have e := ((two_ways C ln l a2).mp h).1
  obtain ⟨i1, i2, i3⟩ := rdA_spec ln (n + 1) [] 0 46 0 l a2 (.inl rfl) Row.nil rfl (by omega) (by omega) e
  exact ⟨i1, i3⟩
theorem rdS_back (C : Cod n B D) {ab l : List Nat} (ln : ab.length = n) (ll : l.length = n) (rl : Row l) (rest : List Nat) : rdS B D ab (encL B ab l ++ rest) = some (l, (encL B ab l).length) := by
  have back := readBack C ln ll rl (n + 1) 0 46 0 rest (L := encL B ab l ++ rest) (.inl rfl) (by omega) (by omega) (fun h => absurd h (by omega)) (by rw [List.drop_zero]; rfl)
  unfold rdS
  rw [ln]
  have back : rdQ B D ab (encL B ab l ++ rest) (n + 1) [] 0 46 0 = some (l, 0 + (encA B ab l 0 46).length) := back
  rw [back, Nat.zero_add]
  rfl
end Fp

set_option Elab.async false
set_option linter.all false
set_option maxRecDepth 100000
set_option maxHeartbeats 4000000
/-! Bits of blocks, each with a mark behind it: their stretches. -/
namespace Fp
open PySem L2 PyProof.Rows
def NoMk (w : List Nat) : Prop := ∀ v, occ w v = false
theorem noMk_short {w : List Nat} (h : w.length < 12) : NoMk w := fun v => occ_far (by omega)
theorem noMk_pad {m : Nat} {w : List Nat} (h : mxZ 0 w ≤ 10) : NoMk (w ++ List.replicate m 48) := fun v => by
  cases e : occ (w ++ List.replicate m 48) v with
  | false => rfl
  | true =>
    exfalso
    obtain ⟨h1, h2⟩ := occ_iff.mp e
    have lt : v + 11 < w.length := by
      by_cases z : v + 11 < w.length
      · exact z
      · rw [List.getElem?_append_right (by omega), List.getElem?_replicate] at h1
        split at h1
        · cases h1
        · cases h1
    rw [List.drop_append_of_le_length (by omega), List.take_append_of_le_length (by rw [List.length_drop]; omega)] at h2
    have := ten_mxZ (t := 0) h2
    omega
def blk (ws : List (List Nat)) : List Nat := (ws.map (· ++ mkL)).flatten
theorem blk_cons (w : List Nat) (ws : List (List Nat)) : blk (w :: ws) = w ++ (mkL ++ blk ws) := by
  unfold blk
  rw [List.map_cons, List.flatten_cons, List.append_assoc]
theorem blk_app (a b : List (List Nat)) : blk (a ++ b) = blk a ++ blk b := by
  unfold blk
  rw [List.map_append, List.flatten_append]
theorem occ_app (P R : List Nat) (v : Nat) : occ (P ++ R) (P.length + v) = occ R v := by
  unfold occ
  rw [← List.drop_drop, List.drop_left]
theorem occ_here (P R : List Nat) : occ (P ++ (mkL ++ R)) P.length = true := by
  have := occ_app P (mkL ++ R) 0
  rw [Nat.add_zero] at this
  rw [this]
  rfl
theorem occ_before {w R : List Nat} (h : NoMk w) {u : Nat} (hu : u < w.length) : occ (w ++ (mkL ++ R)) u = false := by
  cases e : occ (w ++ (mkL ++ R)) u with
  | false => rfl
  | true =>
    exfalso
    obtain ⟨h1, h2⟩ := occ_iff.mp e
    by_cases z : u + 11 < w.length
    · rw [List.getElem?_append_left z] at h1
      rw [List.drop_append_of_le_length (by omega), List.take_append_of_le_length (by rw [List.length_drop]; omega)] at h2
      have := occ_iff.mpr ⟨h1, h2⟩
      rw [h u] at this
      cases this
    · rw [List.getElem?_append_right (by omega)] at h1
      have lt : u + 11 - w.length < 11 := by omega
      generalize u + 11 - w.length = j at h1 lt
      rw [List.getElem?_append_left (show j < mkL.length by show j < 12; omega)] at h1
      have : ∀ j, j < 11 → mkL[j]? = some 48 := by decide
      rw [this j lt] at h1
      cases h1
def posL : Nat → List (List Nat) → List Nat
  | _, [] => []
  | e, w :: ws => (e + w.length) :: posL (e + w.length + 12) ws
theorem occs_blk : ∀ (ws : List (List Nat)) (P Q : List Nat), (∀ w ∈ ws, NoMk w) → occs (P ++ (blk ws ++ Q)) (P.length + (blk ws).length) = occs (P ++ (blk ws ++ Q)) P.length ++ posL P.length ws
  | [], P, Q, _ => by
    show occs _ (P.length + 0) = _ ++ []
    rw [List.append_nil, Nat.add_zero]
  | w :: ws, P, Q, h => by
    have hw := h w (List.mem_cons_self ..)
    have ih := occs_blk ws (P ++ (w ++ mkL)) Q (fun x hx => h x (List.mem_cons_of_mem _ hx))
    have eL : P ++ (w ++ mkL) ++ (blk ws ++ Q) = P ++ (blk (w :: ws) ++ Q) := by
      rw [blk_cons]
      simp only [List.append_assoc]
    rw [eL] at ih
    have lm : mkL.length = 12 := rfl
    have e1 : (P ++ (w ++ mkL)).length = P.length + w.length + 12 := by
      rw [List.length_append, List.length_append, lm, Nat.add_assoc]
    have e2 : (blk (w :: ws)).length = w.length + 12 + (blk ws).length := by
      rw [blk_cons, List.length_append, List.length_append, lm, Nat.add_assoc]
    rw [e1] at ih
    rw [e2, show P.length + (w.length + 12 + (blk ws).length) = P.length + w.length + 12 + (blk ws).length by omega, ih]
    have one := occs_one (l := P ++ (blk (w :: ws) ++ Q)) (s := P.length) (k := P.length + w.length) (by omega) ?_ ?_
    · rw [one, List.append_assoc]
      rfl
    · rw [blk_cons, List.append_assoc, List.append_assoc, ← List.append_assoc, ← List.length_append]
      exact occ_here _ _
    · intro v a b
      obtain ⟨u, rfl⟩ : ∃ u, v = P.length + u := ⟨v - P.length, by omega⟩
      rw [occ_app, blk_cons, List.append_assoc, List.append_assoc]
      exact occ_before hw (by omega)
theorem occs_pre (l : List Nat) {s t : Nat} (h : s ≤ t) : ∃ X, occs l t = occs l s ++ X := by
  obtain ⟨d, rfl⟩ : ∃ d, t = s + d := ⟨t - s, by omega⟩
  refine ⟨((List.range d).map (s + ·)).filter (occ l), ?_⟩
  unfold occs
  rw [List.range_add, List.filter_append]
theorem posL_at : ∀ (ws : List (List Nat)) (e i : Nat), i < ws.length → (posL e ws)[i]? = some (e + (blk (ws.take i)).length + (ws.getD i []).length)
  | [], _, _, h => absurd h (Nat.not_lt_zero _)
  | w :: ws, e, 0, _ => rfl
  | w :: ws, e, i + 1, h => by
    have ih := posL_at ws (e + w.length + 12) i (by rw [List.length_cons] at h; omega)
    show (posL (e + w.length + 12) ws)[i]? = _
    rw [ih]
    show some _ = some (e + (blk (w :: ws.take i)).length + (ws.getD i []).length)
    rw [blk_cons, List.length_append, List.length_append]
    show some _ = some (e + (w.length + (12 + _)) + _)
    congr 1
    omega
theorem blk_take {ws : List (List Nat)} {i : Nat} (h : i < ws.length) : blk (ws.take (i + 1)) = blk (ws.take i) ++ (ws.getD i [] ++ mkL) := by
  rw [List.take_succ, List.getElem?_eq_getElem h, List.getD_eq_getElem?_getD, List.getElem?_eq_getElem h, blk_app]
  show _ ++ blk [ws[i]] = _
  rw [blk_cons]
  show _ ++ (ws[i] ++ (mkL ++ [])) = _
  rw [List.append_nil]
  rfl
theorem ends_blk {ws : List (List Nat)} {Q : List Nat} (h : ∀ w ∈ ws, NoMk w) {i : Nat} (hi : i < ws.length) : i < (endsL (blk ws ++ Q)).length ∧ (endsL (blk ws ++ Q)).getD i 0 = (blk (ws.take (i + 1))).length := by
  have o := occs_blk ws [] Q h
  rw [List.nil_append, List.length_nil, Nat.zero_add] at o
  obtain ⟨X, hX⟩ := occs_pre (blk ws ++ Q) (s := (blk ws).length) (t := (blk ws ++ Q).length) (by rw [List.length_append]; omega)
  rw [o] at hX
  have o0 : occs (blk ws ++ Q) 0 = [] := rfl
  rw [o0, List.nil_append] at hX
  have at_ : (endsL (blk ws ++ Q))[i]? = some ((blk (ws.take (i + 1))).length) := by
    unfold endsL
    rw [hX, List.getElem?_map]
    have p := posL_at ws 0 i hi
    have lt : i < (posL 0 ws).length := by
      rcases Nat.lt_or_ge i (posL 0 ws).length with z | z
      · exact z
      · rw [List.getElem?_eq_none z] at p
        cases p
    rw [List.getElem?_append_left lt, p, blk_take hi, List.length_append, List.length_append]
    show some (0 + _ + _ + 12) = some (_ + (_ + 12))
    congr 1
    omega
  refine ⟨?_, ?_⟩
  · rcases Nat.lt_or_ge i (endsL (blk ws ++ Q)).length with z | z
    · exact z
    · rw [List.getElem?_eq_none z] at at_
      cases at_
  · rw [List.getD_eq_getElem?_getD, at_]
    rfl
theorem stt_blk {ws : List (List Nat)} {Q : List Nat} (h : ∀ w ∈ ws, NoMk w) {i : Nat} (hi : i + 1 < ws.length) : i < (sttL (blk ws ++ Q)).length ∧ (sttL (blk ws ++ Q)).getD i [] = ws.getD (i + 1) [] ++ mkL := by
  obtain ⟨a1, a2⟩ := ends_blk (Q := Q) h (i := i) (by omega)
  obtain ⟨b1, b2⟩ := ends_blk (Q := Q) h (i := i + 1) hi
  have l1 := sttL_len (blk ws ++ Q)
  obtain ⟨_, _, _, _, s5⟩ := str_at (l := blk ws ++ Q) b1
  refine ⟨by omega, ?_⟩
  rw [List.getD_eq_getElem?_getD, s5, a2, b2]
  show List.take _ _ = _
  have e1 : blk ws ++ Q = blk (ws.take (i + 1)) ++ ((ws.getD (i + 1) [] ++ mkL) ++ (blk (ws.drop (i + 2)) ++ Q)) := by
    rw [← List.append_assoc, ← List.append_assoc, ← blk_take hi, ← blk_app, List.take_append_drop]
  rw [blk_take hi, e1, List.drop_left, List.length_append, Nat.add_sub_cancel_left, List.take_left]
theorem few_one {w : List Nat} (h : Few w) (ne : w ≠ []) (hb : ∀ c ∈ w, c = 48 ∨ c = 49) : 49 ∈ w := by
  by_cases z : 49 ∈ w
  · exact z
  · exfalso
    have e : w = List.replicate w.length 48 := by
      rw [List.eq_replicate_iff]
      refine ⟨rfl, fun c hc => ?_⟩
      rcases hb c hc with y | y
      · exact y
      · rw [y] at hc
        exact absurd hc z
    have t := h.1
    rw [e, trail_rep] at t
    have : 0 < w.length := List.length_pos_iff.mpr ne
    omega
theorem emp_end : emp ([49] ++ mkL) = true := by decide
theorem not_emp {c m : Nat} {w : List Nat} (hc : c = 48 ∨ c = 49 ∧ 49 ∈ w) : emp ((c :: w) ++ List.replicate m 48 ++ mkL) = false := by
  unfold emp
  refine decide_eq_false (fun z => ?_)
  rw [List.cons_append, List.cons_append, List.cons.injEq] at z
  obtain ⟨z1, z2⟩ := z
  rcases hc with rfl | ⟨rfl, hw⟩
  · cases z1
  · have e : mkL = List.replicate 11 48 ++ [49] := rfl
    rw [e, ← List.append_assoc] at z2
    have := List.append_inj_left' z2 rfl
    have hm : 49 ∈ List.replicate (List.length (49 :: (w ++ List.replicate m 48 ++ List.replicate 11 48 ++ [49])) - 2) 48 := by
      rw [← this]
      exact List.mem_append_left _ (List.mem_append_left _ hw)
    have := (List.mem_replicate.mp hm).2
    cases this
theorem strR_rows {ah be : List Nat} {W F' : List (List Nat)} {b : Bool} (hA : NoMk ah) (hW : ∀ w ∈ W, NoMk w ∧ emp (w ++ mkL) = false) (h : StrR (sttL (blk (ah :: (W ++ List.replicate 5 [49])) ++ be)) F' b) : b = true ∧ F' = W.map (· ++ mkL) := by
  have hN : ∀ w ∈ ah :: (W ++ List.replicate 5 [49]), NoMk w := fun w hw => by
    rcases List.mem_cons.mp hw with rfl | hw
    · exact hA
    rcases List.mem_append.mp hw with hw | hw
    · exact (hW w hw).1
    · rw [(List.mem_replicate.mp hw).2]
      exact noMk_short (by decide)
  have len : (ah :: (W ++ List.replicate 5 [49])).length = W.length + 6 := by
    rw [List.length_cons, List.length_append, List.length_replicate]
  have st := fun i (hi : i + 1 < (ah :: (W ++ List.replicate 5 [49])).length) => stt_blk (Q := be) hN hi
  rw [len] at st
  generalize sttL (blk (ah :: (W ++ List.replicate 5 [49])) ++ be) = F at h st
  have lF := (st (W.length + 4) (by omega)).1
  have row : ∀ i, i < W.length → F.getD i [] = W.getD i [] ++ mkL := fun i hi => by
    rw [(st i (by omega)).2, List.getD_cons_succ, List.getD_eq_getElem?_getD, List.getElem?_append_left hi, ← List.getD_eq_getElem?_getD]
  have rowE : ∀ i, i < W.length → emp (F.getD i []) = false := fun i hi => by
    rw [row i hi, List.getD_eq_getElem?_getD, List.getElem?_eq_getElem hi]
    exact (hW _ (List.getElem_mem hi)).2
  have fin : ∀ i, W.length ≤ i → i < W.length + 5 → emp (F.getD i []) = true := fun i h1 h2 => by
    rw [(st i (by omega)).2, List.getD_cons_succ, List.getD_eq_getElem?_getD, List.getElem?_append_right h1, List.getElem?_replicate, if_pos (by omega)]
    exact emp_end
  have two : E2 F (W.length + 1) := ⟨fin _ (by omega) (by omega), fin _ (by omega) (by omega)⟩
  rcases h with ⟨hb, a, a1, a2, a3, a4, a5⟩ | ⟨_, no, _⟩
  · refine ⟨hb, ?_⟩
    have n1 : ¬ a ≤ W.length := fun z => by
      have := a3.1
      rw [rowE (a - 1) (by omega)] at this
      cases this
    have n2 : ¬ W.length + 1 < a := fun z => a4 _ (by omega) z two
    have ea : a - 1 = W.length := by omega
    rw [a5, ea]
    refine List.ext_getElem? fun i => ?_
    rw [List.getElem?_map]
    by_cases z : i < W.length
    · have r := row i z
      rw [List.getD_eq_getElem?_getD, List.getElem?_eq_getElem (show i < F.length by omega), List.getD_eq_getElem?_getD, List.getElem?_eq_getElem z] at r
      rw [List.getElem?_take_of_lt z, List.getElem?_eq_getElem (show i < F.length by omega), List.getElem?_eq_getElem z]
      exact congrArg some r
    · rw [List.getElem?_eq_none (by rw [List.length_take]; omega), List.getElem?_eq_none (by omega)]
      rfl
  · exact absurd two (no _ (by omega) (by omega))
end Fp

set_option Elab.async false
set_option linter.all false
set_option maxRecDepth 100000
set_option maxHeartbeats 4000000
/-! A block that came whole, with the mark ahead of it and the one behind it: its stretch among any bits (for k25). -/
namespace Fp
open PySem L2 PyProof.Rows
theorem ends_inner {X w Y : List Nat} (h : NoMk w) : ∃ Z, endsL (X ++ (mkL ++ (w ++ (mkL ++ Y)))) = (occs (X ++ (mkL ++ (w ++ (mkL ++ Y)))) X.length).map (· + 12) ++ (X.length + 12) :: (X.length + 12 + w.length + 12) :: Z := by
  have o1 := occs_one (l := X ++ (mkL ++ (w ++ (mkL ++ Y)))) (s := X.length) (k := X.length) (Nat.le_refl _) (occ_here X _) (fun v a b => absurd b (by omega))
  have o2 := occs_blk [w] (X ++ mkL) Y (fun x hx => by rw [List.mem_singleton.mp hx]; exact h)
  have eL : X ++ mkL ++ (blk [w] ++ Y) = X ++ (mkL ++ (w ++ (mkL ++ Y))) := by
    rw [blk_cons]
    show X ++ mkL ++ (w ++ (mkL ++ []) ++ Y) = _
    simp only [List.append_assoc, List.append_nil, List.nil_append]
  have lm : mkL.length = 12 := rfl
  have lb : (blk [w]).length = w.length + 12 := by
    rw [blk_cons, List.length_append]
    rfl
  rw [eL, List.length_append, lm, lb, o1] at o2
  obtain ⟨Z, hZ⟩ := occs_pre (X ++ (mkL ++ (w ++ (mkL ++ Y)))) (s := X.length + 12 + (w.length + 12)) (t := (X ++ (mkL ++ (w ++ (mkL ++ Y)))).length) (by
    rw [List.length_append, List.length_append, List.length_append, List.length_append, lm]
    omega)
  rw [o2] at hZ
  refine ⟨Z.map (· + 12), ?_⟩
  unfold endsL
  rw [hZ]
  simp only [List.map_append, List.map_cons, List.map_nil, List.append_assoc, List.cons_append, List.nil_append, posL]
theorem stt_inner {X w Y : List Nat} (h : NoMk w) : ∃ s, s + 1 < (endsL (X ++ (mkL ++ (w ++ (mkL ++ Y))))).length ∧ (endsL (X ++ (mkL ++ (w ++ (mkL ++ Y)))))[s]? = some (X.length + 12) ∧ (sttL (X ++ (mkL ++ (w ++ (mkL ++ Y)))))[s]? = some (w ++ mkL) := by
  obtain ⟨Z, hZ⟩ := ends_inner (X := X) (Y := Y) h
  generalize hA : (occs (X ++ (mkL ++ (w ++ (mkL ++ Y)))) X.length).map (· + 12) = A at hZ
  have g0 : (endsL (X ++ (mkL ++ (w ++ (mkL ++ Y)))))[A.length]? = some (X.length + 12) := by
    rw [hZ, List.getElem?_append_right (Nat.le_refl _), Nat.sub_self]
    rfl
  have g1 : (endsL (X ++ (mkL ++ (w ++ (mkL ++ Y)))))[A.length + 1]? = some (X.length + 12 + w.length + 12) := by
    rw [hZ, List.getElem?_append_right (by omega), show A.length + 1 - A.length = 1 by omega]
    rfl
  have lt : A.length + 1 < (endsL (X ++ (mkL ++ (w ++ (mkL ++ Y))))).length := by
    rw [hZ, List.length_append, List.length_cons, List.length_cons]
    omega
  refine ⟨A.length, lt, g0, ?_⟩
  obtain ⟨_, _, _, _, s5⟩ := str_at lt
  simp only [s5, List.getD_eq_getElem?_getD, g0, g1]
  show some ((List.drop (X.length + 12) _).take (X.length + 12 + w.length + 12 - (X.length + 12))) = _
  have e1 : X ++ (mkL ++ (w ++ (mkL ++ Y))) = (X ++ mkL) ++ ((w ++ mkL) ++ Y) := by simp only [List.append_assoc]
  have e2 : X.length + 12 = (X ++ mkL).length := by
    rw [List.length_append]
    rfl
  have e3 : X.length + 12 + w.length + 12 - (X.length + 12) = (w ++ mkL).length := by
    rw [List.length_append]
    show _ = w.length + 12
    omega
  rw [e3, e1, e2, List.drop_left, List.take_left]
end Fp

set_option Elab.async false
set_option linter.all false
set_option maxRecDepth 100000
set_option maxHeartbeats 4000000
/-! Bits followed through spoils, each with its place in what was sent (for k25). -/
namespace Fp
open PySem L2 PyProof.Rows
abbrev Ar := List (Nat × Option Nat)
def RisesP (a b : Nat × Option Nat) : Prop := ∀ p q, a.2 = some p → b.2 = some q → p < q
def OkR (l : List Nat) (x : Ar) : Prop := (∀ y ∈ x, ∀ p, y.2 = some p → l[p]? = some y.1) ∧ x.Pairwise RisesP
def arr0 (l : List Nat) : Ar := (List.range l.length).map fun i => (l.getD i 0, some i)
theorem okR_0 (l : List Nat) : OkR l (arr0 l) := by
  refine ⟨fun y hy p hp => ?_, ?_⟩
  · obtain ⟨i, hi, rfl⟩ := List.mem_map.mp hy
    have hi := List.mem_range.mp hi
    have e : i = p := Option.some.inj hp
    rw [← e]
    show l[i]? = some (l.getD i 0)
    rw [List.getD_eq_getElem?_getD, List.getElem?_eq_getElem hi]
    rfl
  · unfold arr0
    rw [List.pairwise_map]
    refine List.Pairwise.imp (fun {a b} h => ?_) List.pairwise_lt_range
    intro p q hp hq
    cases hp
    cases hq
    exact h
theorem okR_sub {l : List Nat} {x z : Ar} (h : OkR l x) (s : z.Sublist x) : OkR l z := ⟨fun y hy => h.1 y (s.subset hy), h.2.sublist s⟩
theorem okR_ins {l : List Nat} {A B : Ar} {d : Nat} (h : OkR l (A ++ B)) : OkR l (A ++ (d, none) :: B) := by
  refine ⟨fun y hy p hp => ?_, ?_⟩
  · rcases List.mem_append.mp hy with z | z
    · exact h.1 y (List.mem_append_left _ z) p hp
    · rcases List.mem_cons.mp z with rfl | z
      · cases hp
      · exact h.1 y (List.mem_append_right _ z) p hp
  · obtain ⟨h1, h2, h3⟩ := List.pairwise_append.mp h.2
    refine List.pairwise_append.mpr ⟨h1, List.pairwise_cons.mpr ⟨(fun b _ p q hp _ => by cases hp), h2⟩, fun a ha b hb => ?_⟩
    rcases List.mem_cons.mp hb with rfl | hb
    · intro p q _ hq
      cases hq
    · exact h3 a ha b hb
theorem okR_put {l : List Nat} {x : Ar} (h : OkR l x) (n d : Nat) : OkR l (x.take n ++ (d, none) :: x.drop n) := okR_ins (by rw [List.take_append_drop]; exact h)
theorem okR_erase {l : List Nat} {x : Ar} (h : OkR l x) (n : Nat) : OkR l (x.eraseIdx n) := okR_sub h (List.eraseIdx_sublist x n)
theorem okR_set {l : List Nat} {x : Ar} (h : OkR l x) {n d : Nat} (hn : n < x.length) : OkR l (x.set n (d, none)) := by
  rw [List.set_eq_take_append_cons_drop, if_pos hn]
  refine okR_ins (okR_sub h ?_)
  have := List.eraseIdx_sublist x n
  rw [List.eraseIdx_eq_take_drop_succ] at this
  exact this
/-- a place stands once -/
theorem place_once {l : List Nat} {x : Ar} (h : OkR l x) {i j p : Nat} (hi : (x.map Prod.snd)[i]? = some (some p)) (hj : (x.map Prod.snd)[j]? = some (some p)) : i = j := by
  rw [List.getElem?_map] at hi hj
  cases ei : x[i]? with
  | none =>
    rw [ei] at hi
    cases hi
  | some a =>
    cases ej : x[j]? with
    | none =>
      rw [ej] at hj
      cases hj
    | some b =>
      rw [ei] at hi
      rw [ej] at hj
      have hi : a.2 = some p := Option.some.inj hi
      have hj : b.2 = some p := Option.some.inj hj
      obtain ⟨li, ei⟩ := List.getElem?_eq_some_iff.mp ei
      obtain ⟨lj, ej⟩ := List.getElem?_eq_some_iff.mp ej
      have pw := List.pairwise_iff_getElem.mp h.2
      rcases Nat.lt_trichotomy i j with z | z | z
      · have := pw i j li lj z p p (by rw [ei]; exact hi) (by rw [ej]; exact hj)
        omega
      · exact z
      · have := pw j i lj li z p p (by rw [ej]; exact hj) (by rw [ei]; exact hi)
        omega
/-- what came whole is what was sent -/
theorem came_bits {l : List Nat} {x : Ar} (h : OkR l x) {a b n : Nat} (e : ((x.map Prod.snd).drop a).take n = (List.range n).map fun k => some (b + k)) : ((x.map Prod.fst).drop a).take n = (l.drop b).take n ∧ b + n ≤ l.length ∨ n = 0 := by
  by_cases n0 : n = 0
  · exact .inr n0
  left
  have at_ : ∀ k, k < n → ∃ c, x[a + k]? = some (c, some (b + k)) ∧ l[b + k]? = some c := fun k hk => by
    have e1 : (((x.map Prod.snd).drop a).take n)[k]? = some (some (b + k)) := by
      rw [e, List.getElem?_map, List.getElem?_range hk]
      rfl
    rw [List.getElem?_take_of_lt hk, List.getElem?_drop, List.getElem?_map] at e1
    cases ex : x[a + k]? with
    | none =>
      rw [ex] at e1
      cases e1
    | some y =>
      rw [ex] at e1
      have e1 : y.2 = some (b + k) := Option.some.inj e1
      exact ⟨y.1, by rw [← e1], h.1 y (List.mem_of_getElem? ex) _ e1⟩
  have bn : b + n ≤ l.length := by
    obtain ⟨c, _, h2⟩ := at_ (n - 1) (by omega)
    have := (List.getElem?_eq_some_iff.mp h2).1
    omega
  refine ⟨?_, bn⟩
  refine List.ext_getElem? fun k => ?_
  by_cases hk : k < n
  · obtain ⟨c, h1, h2⟩ := at_ k hk
    rw [List.getElem?_take_of_lt hk, List.getElem?_take_of_lt hk, List.getElem?_drop, List.getElem?_drop, List.getElem?_map, h1, h2]
    rfl
  · rw [List.getElem?_eq_none (by rw [List.length_take]; omega), List.getElem?_eq_none (by rw [List.length_take]; omega)]
end Fp

set_option Elab.async false
set_option linter.all false
set_option maxRecDepth 100000
set_option maxHeartbeats 4000000
/-! Tuples in a list (of any kind), and rows that came whole (for k25). -/
namespace Fp
open PySem L2 PyProof.Rows
/-! ### tuples in a list -/
def TpsAt {α : Type} (f : α → List V) (H : Hp) : List V → List α → Prop
  | [], [] => True
  | v :: vs, x :: xs => (∃ a, v = .ref a ∧ H a = some (.tup (f x))) ∧ TpsAt f H vs xs
  | _, _ => False
section
variable {α : Type} {f : α → List V} {H H' : Hp}
theorem TpsAt.len : ∀ {vs : List V} {xs : List α}, TpsAt f H vs xs → vs.length = xs.length
  | [], [], _ => rfl
  | _ :: _, _ :: _, ⟨_, r⟩ => congrArg (· + 1) (TpsAt.len r)
  | [], _ :: _, h => h.elim
  | _ :: _, [], h => h.elim
theorem TpsAt.mono (k : ∀ (a : Addr) (xs : List V), H a = some (.tup xs) → H' a = some (.tup xs)) : ∀ {vs : List V} {xs : List α}, TpsAt f H vs xs → TpsAt f H' vs xs
  | [], [], _ => trivial
  | _ :: _, _ :: _, ⟨⟨t, e, h⟩, r⟩ => ⟨⟨t, e, k _ _ h⟩, TpsAt.mono k r⟩
  | [], _ :: _, h => h.elim
  | _ :: _, [], h => h.elim
theorem TpsAt.get : ∀ {vs : List V} {xs : List α} {k : Nat} {x : α}, TpsAt f H vs xs → xs[k]? = some x → ∃ t, vs[k]? = some (.ref t) ∧ H t = some (.tup (f x))
  | [], [], _, _, _, h => by cases h
  | _ :: _, _ :: _, 0, x, ⟨⟨t, e, h⟩, _⟩, hk => by
    cases hk
    exact ⟨t, congrArg some e, h⟩
  | _ :: _, _ :: _, k + 1, x, ⟨_, r⟩, hk => TpsAt.get (k := k) r hk
  | [], _ :: _, _, _, h, _ => h.elim
  | _ :: _, [], _, _, h, _ => h.elim
theorem TpsAt.getV : ∀ {vs : List V} {xs : List α} {k : Nat} {v : V}, TpsAt f H vs xs → vs[k]? = some v → ∃ t x, xs[k]? = some x ∧ v = .ref t ∧ H t = some (.tup (f x))
  | [], [], _, _, _, h => by cases h
  | _ :: _, x :: _, 0, v, ⟨⟨t, e, h⟩, _⟩, hk => by
    cases hk
    exact ⟨t, x, rfl, e, h⟩
  | _ :: _, _ :: _, k + 1, v, ⟨_, r⟩, hk => TpsAt.getV (k := k) r hk
  | [], _ :: _, _, _, h, _ => h.elim
  | _ :: _, [], _, _, h, _ => h.elim
theorem TpsAt.app {ws : List V} {ys : List α} (k : TpsAt f H ws ys) : ∀ {vs : List V} {xs : List α}, TpsAt f H vs xs → TpsAt f H (vs ++ ws) (xs ++ ys)
  | [], [], _ => k
  | _ :: _, _ :: _, h => ⟨h.1, TpsAt.app k h.2⟩
  | [], _ :: _, h => h.elim
  | _ :: _, [], h => h.elim
theorem TpsAt.take : ∀ {vs : List V} {xs : List α} (n : Nat), TpsAt f H vs xs → TpsAt f H (vs.take n) (xs.take n)
  | [], [], n, _ => by rw [List.take_nil, List.take_nil]; trivial
  | _ :: _, _ :: _, 0, _ => trivial
  | _ :: _, _ :: _, n + 1, h => ⟨h.1, TpsAt.take n h.2⟩
  | [], _ :: _, _, h => h.elim
  | _ :: _, [], _, h => h.elim
theorem TpsAt.drop : ∀ {vs : List V} {xs : List α} (n : Nat), TpsAt f H vs xs → TpsAt f H (vs.drop n) (xs.drop n)
  | [], [], n, _ => by rw [List.drop_nil, List.drop_nil]; trivial
  | _ :: _, _ :: _, 0, h => h
  | _ :: _, _ :: _, n + 1, h => TpsAt.drop n h.2
  | [], _ :: _, _, h => h.elim
  | _ :: _, [], _, h => h.elim
theorem TpsAt.one {t : Addr} {x : α} (h : H t = some (.tup (f x))) : TpsAt f H [.ref t] [x] := ⟨⟨t, rfl, h⟩, trivial⟩
theorem TpsAt.push {vs : List V} {xs : List α} {t : Addr} {x : α} (h : TpsAt f H vs xs) (ht : H t = some (.tup (f x))) : TpsAt f H (vs ++ [.ref t]) (xs ++ [x]) := TpsAt.app (TpsAt.one ht) h
end
/-! ### data in general -/
theorem lay_all {α : Type} (f : α → PyData) : ∀ {xs : List α}, (∀ x ∈ xs, PyData.canLay0 (f x) = true) → PyData.canLayAll0 (xs.map f) = true
  | [], _ => by simp [PyData.canLayAll0]
  | x :: xs, h => by
    have ih := lay_all f (xs := xs) fun y hy => h y (List.mem_cons_of_mem _ hy)
    have h1 := h x (List.mem_cons_self ..)
    simp only [List.map_cons, PyData.canLayAll0, h1, ih, Bool.and_true]
theorem depth_all {α : Type} (f : α → PyData) (n : Nat) : ∀ {xs : List α}, (∀ x ∈ xs, PyData.depth (f x) ≤ n) → PyData.depthAll (xs.map f) ≤ n
  | [], _ => by simp [PyData.depthAll]
  | x :: xs, h => by
    have ih := depth_all f n (xs := xs) fun y hy => h y (List.mem_cons_of_mem _ hy)
    have h1 := h x (List.mem_cons_self ..)
    simp only [List.map_cons, PyData.depthAll]
    omega
/-- data that may be laid, not deep -/
def DOk (d : PyData) (n : Nat) : Prop := PyData.canLay0 d = true ∧ PyData.depth d ≤ n
theorem DOk.shaped {d : PyData} {n : Nat} (h : DOk d n) (hn : n ≤ 64 := by decide) : SeqAt.shaped d = true := by
  show (PyData.canLay0 d && decide (PyData.depth d ≤ 64)) = true
  rw [Bool.and_eq_true]
  exact ⟨h.1, decide_eq_true (Nat.le_trans h.2 hn)⟩
theorem DOk.refl {d : PyData} {n : Nat} (h : DOk d n) : PyData.eqv d d = true := SeqAt.eqv_refl _ h.1
theorem DOk.list {α : Type} {f : α → PyData} {n : Nat} {xs : List α} (h : ∀ x ∈ xs, DOk (f x) n) : DOk (.list (xs.map f)) (n + 1) := by
  refine ⟨by simp only [PyData.canLay0]; exact lay_all f fun x hx => (h x hx).1, ?_⟩
  have := depth_all f n fun x hx => (h x hx).2
  simp only [PyData.depth]
  omega
theorem DOk.tuple {α : Type} {f : α → PyData} {n : Nat} {xs : List α} (h : ∀ x ∈ xs, DOk (f x) n) : DOk (.tuple (xs.map f)) (n + 1) := by
  refine ⟨by simp only [PyData.canLay0]; exact lay_all f fun x hx => (h x hx).1, ?_⟩
  have := depth_all f n fun x hx => (h x hx).2
  simp only [PyData.depth]
  omega
theorem DOk.int (i : Int) : DOk (.int i) 0 := ⟨by simp only [PyData.canLay0], by simp only [PyData.depth]; exact Nat.le_refl _⟩
theorem DOk.bool (b : Bool) : DOk (.bool b) 0 := ⟨by simp only [PyData.canLay0], by simp only [PyData.depth]; exact Nat.le_refl _⟩
theorem DOk.none : DOk .none 0 := ⟨by simp only [PyData.canLay0], by simp only [PyData.depth]; exact Nat.le_refl _⟩
theorem DOk.str {l : List Nat} (h : Codes l) : DOk (.str (sOf l)) 0 := ⟨by simp only [PyData.canLay0]; exact strOk_of h, by simp only [PyData.depth]; exact Nat.le_refl _⟩
theorem DOk.word {z : Str} (h : PyData.strOk z = true) : DOk (.str z) 0 := ⟨by simp only [PyData.canLay0]; exact h, by simp only [PyData.depth]; exact Nat.le_refl _⟩
theorem DOk.mono {d : PyData} {n m : Nat} (h : DOk d n) (l : n ≤ m) : DOk d m := ⟨h.1, Nat.le_trans h.2 l⟩
theorem dp_all {α : Type} {K : PySem.W.Frag} {H : Hp} {g : α → V} {f : α → PyData} : ∀ {xs : List α}, (∀ x ∈ xs, Dp K H (g x) (f x)) → DpAll K H (xs.map g) (xs.map f)
  | [], _ => .nil
  | x :: xs, h => .cons (h x (List.mem_cons_self ..)) (dp_all fun y hy => h y (List.mem_cons_of_mem _ hy))
theorem eqvAll_map {α : Type} [DecidableEq α] {f : α → PyData} (h : ∀ x y, PyData.eqv (f x) (f y) = decide (x = y)) : ∀ xs ys : List α, PyData.eqvAll (xs.map f) (ys.map f) = decide (xs = ys)
  | [], [] => by simp [PyData.eqvAll]
  | [], y :: ys => by simp [PyData.eqvAll]
  | x :: xs, [] => by simp [PyData.eqvAll]
  | x :: xs, y :: ys => by
    simp only [List.map_cons, PyData.eqvAll, h x y, eqvAll_map h xs ys]
    by_cases e : x = y <;> by_cases e2 : xs = ys <;> simp [e, e2]
theorem dp_tups {α : Type} {K : PySem.W.Frag} {H : Hp} {g : α → List V} {f : α → List PyData} (h : ∀ x, DpAll K H (g x) (f x)) : ∀ {vs : List V} {xs : List α}, TpsAt g H vs xs → DpAll K H vs (xs.map fun x => .tuple (f x))
  | [], [], _ => .nil
  | _ :: _, x :: _, ⟨⟨t, e, ht⟩, r⟩ => by
    subst e
    exact .cons (.tup (.inl (.inl ht)) (h x)) (dp_tups h r)
  | [], _ :: _, h => h.elim
  | _ :: _, [], h => h.elim
theorem cutV_mid (xs : List V) (a b : Nat) : cutV xs (some (a : Int)) (some (b : Int)) = (xs.drop a).take (b - a) := by
  unfold cutV
  rw [HT.sIx_nat, HT.sIx_nat]
  show (xs.drop (min a xs.length)).take (min b xs.length - min a xs.length) = _
  by_cases ha : a ≤ xs.length
  · rw [show min a xs.length = a from Nat.min_eq_left ha]
    by_cases hb : b ≤ xs.length
    · rw [show min b xs.length = b from Nat.min_eq_left hb]
    · rw [show min b xs.length = xs.length from Nat.min_eq_right (by omega), List.take_of_length_le (by rw [List.length_drop]; omega), List.take_of_length_le (by rw [List.length_drop]; omega)]
  · rw [show min a xs.length = xs.length from Nat.min_eq_right (by omega), List.drop_eq_nil_of_le (Nat.le_refl _), List.drop_eq_nil_of_le (show xs.length ≤ a by omega), List.take_nil, List.take_nil]
theorem least_nat {p : Nat → Prop} (h : ∃ a, p a) : ∃ a, p a ∧ ∀ a', a' < a → ¬ p a' := by
  obtain ⟨a, ha⟩ := h
  induction a using Nat.strongRecOn with
  | _ a ih =>
    by_cases z : ∃ a', a' < a ∧ p a'
    · obtain ⟨a', h1, h2⟩ := z
      exact ih a' h1 h2
    · exact ⟨a, ha, fun a' h1 h2 => z ⟨a', h1, h2⟩⟩
/-! ### places, as values -/
def plV : Option Nat → V
  | none => .non
  | some p => .int (p : Int)
def plD : Option Nat → PyData
  | none => .none
  | some p => .int (p : Int)
def arV (y : Nat × Option Nat) : List V := [.str (sOf [y.1]), plV y.2]
theorem pl_flat : ∀ pl : List (Option Nat), (pl.map plV).all flatV = true
  | [] => rfl
  | none :: r => pl_flat r
  | some p :: r => pl_flat r
theorem pl_eq (y : Option Nat) (b : Nat) : eqV (plV y) (.int (b : Int)) = decide (y = some b) := by
  cases y with
  | none => rfl
  | some p =>
    show ((p : Int) == (b : Int)) = _
    by_cases e : p = b
    · rw [e]
      simp
    · have : ¬ ((p : Int) = (b : Int)) := fun z => e (Int.ofNat.inj z)
      simp [e, this]
theorem pl_in (pl : List (Option Nat)) (b : Nat) : inV (.int (b : Int)) (pl.map plV) = decide (some b ∈ pl) := by
  unfold inV
  induction pl with
  | nil => rfl
  | cons y r ih =>
    rw [List.map_cons, List.any_cons, ih, pl_eq]
    by_cases e : y = some b
    · simp [e]
    · have e' : ¬ some b = y := fun z => e z.symm
      simp [e, e']
theorem plD_eqv (x y : Option Nat) : PyData.eqv (plD x) (plD y) = decide (x = y) := by
  cases x with
  | none =>
    cases y with
    | none => simp [plD, PyData.eqv]
    | some q => simp [plD, PyData.eqv]
  | some p =>
    cases y with
    | none => simp [plD, PyData.eqv]
    | some q =>
      simp only [plD, PyData.eqv]
      by_cases e : p = q
      · simp [e]
      · have : ¬ ((p : Int) = (q : Int)) := fun z => e (Int.ofNat.inj z)
        simp [e, this]
theorem plD_ok (x : Option Nat) : DOk (plD x) 0 := by
  cases x with
  | none => exact DOk.none
  | some p => exact DOk.int _
theorem dp_pl {K : PySem.W.Frag} {H : Hp} (x : Option Nat) : Dp K H (plV x) (plD x) := by
  cases x with
  | none => exact .non
  | some p => exact .int _
theorem arr0_at {l : List Nat} {i : Nat} (h : i < l.length) : (arr0 l)[i]? = some (l[i], some i) := by
  unfold arr0
  rw [List.getElem?_map, List.getElem?_range h]
  show some (l.getD i 0, some i) = _
  rw [List.getD_eq_getElem?_getD, List.getElem?_eq_getElem h]
  rfl
theorem arr0_len (l : List Nat) : (arr0 l).length = l.length := by
  unfold arr0
  rw [List.length_map, List.length_range]
theorem arr0_bits (l : List Nat) : (arr0 l).map Prod.fst = l := by
  refine List.ext_getElem? fun i => ?_
  rw [List.getElem?_map]
  by_cases h : i < l.length
  · rw [arr0_at h, List.getElem?_eq_getElem h]
    rfl
  · rw [List.getElem?_eq_none (by rw [arr0_len]; omega), List.getElem?_eq_none (by omega)]
    rfl
/-! ### ends once -/
theorem ends_uniq {l : List Nat} {s t v : Nat} (h1 : (endsL l)[s]? = some v) (h2 : (endsL l)[t]? = some v) : s = t := by
  unfold endsL at h1 h2
  rw [List.getElem?_map] at h1 h2
  have so := occs_sorted l l.length
  cases e1 : (occs l l.length)[s]? with
  | none =>
    rw [e1] at h1
    cases h1
  | some a =>
    cases e2 : (occs l l.length)[t]? with
    | none =>
      rw [e2] at h2
      cases h2
    | some b =>
      rw [e1] at h1
      rw [e2] at h2
      have h1 : a + 12 = v := Option.some.inj h1
      have h2 : b + 12 = v := Option.some.inj h2
      obtain ⟨l1, g1⟩ := List.getElem?_eq_some_iff.mp e1
      obtain ⟨l2, g2⟩ := List.getElem?_eq_some_iff.mp e2
      have pw := List.pairwise_iff_getElem.mp so
      rcases Nat.lt_trichotomy s t with z | z | z
      · have := pw s t l1 l2 z
        omega
      · exact z
      · have := pw t s l2 l1 z
        omega
/-! ### what was sent, block by block -/
theorem sent_at {ws : List (List Nat)} {Q : List Nat} (h : ∀ w ∈ ws, NoMk w) {k : Nat} (hk : k + 1 < ws.length) : k + 1 < (endsL (blk ws ++ Q)).length ∧ 12 ≤ (endsL (blk ws ++ Q)).getD k 0 ∧ (endsL (blk ws ++ Q)).getD (k + 1) 0 = (endsL (blk ws ++ Q)).getD k 0 + (ws.getD (k + 1) []).length + 12 ∧ ((blk ws ++ Q).drop ((endsL (blk ws ++ Q)).getD k 0 - 12)).take ((ws.getD (k + 1) []).length + 24) = mkL ++ (ws.getD (k + 1) [] ++ mkL) := by
  obtain ⟨a1, a2⟩ := ends_blk (Q := Q) h (i := k) (by omega)
  obtain ⟨b1, b2⟩ := ends_blk (Q := Q) h (i := k + 1) hk
  have lm : mkL.length = 12 := rfl
  have t1 := blk_take (ws := ws) (i := k) (by omega)
  have t2 := blk_take (ws := ws) (i := k + 1) hk
  have l1 : (blk (ws.take (k + 1))).length = (blk (ws.take k)).length + (ws.getD k []).length + 12 := by
    rw [t1, List.length_append, List.length_append, lm]
    omega
  have l2 : (blk (ws.take (k + 1 + 1))).length = (blk (ws.take (k + 1))).length + (ws.getD (k + 1) []).length + 12 := by
    rw [t2, List.length_append, List.length_append, lm]
    omega
  refine ⟨b1, by omega, by omega, ?_⟩
  have e1 : blk ws ++ Q = (blk (ws.take k) ++ ws.getD k []) ++ ((mkL ++ (ws.getD (k + 1) [] ++ mkL)) ++ (blk (ws.drop (k + 2)) ++ Q)) := by
    have := blk_app (ws.take (k + 2)) (ws.drop (k + 2))
    rw [List.take_append_drop] at this
    rw [this, t2, t1]
    simp only [List.append_assoc]
  rw [a2, l1, show (blk (ws.take k)).length + (ws.getD k []).length + 12 - 12 = (blk (ws.take k) ++ ws.getD k []).length by rw [List.length_append]; omega, e1, List.drop_left, show (ws.getD (k + 1) []).length + 24 = (mkL ++ (ws.getD (k + 1) [] ++ mkL)).length by rw [List.length_append, List.length_append, lm]; omega, List.take_left]
/-- a block that came whole: its stretch -/
theorem came_str {ws : List (List Nat)} {Q : List Nat} {x : Ar} (h : ∀ w ∈ ws, NoMk w) {k i : Nat} (hk : k + 1 < ws.length) (ok : OkR (blk ws ++ Q) x) (e : ((x.map Prod.snd).drop i).take ((ws.getD (k + 1) []).length + 24) = (List.range ((ws.getD (k + 1) []).length + 24)).map fun j => some ((endsL (blk ws ++ Q)).getD k 0 - 12 + j)) :
    ∃ s, (endsL (x.map Prod.fst))[s]? = some (i + 12) ∧ (endsL (x.map Prod.fst))[s + 1]? = some (i + 24 + (ws.getD (k + 1) []).length) ∧ (sttL (x.map Prod.fst))[s]? = some (ws.getD (k + 1) [] ++ mkL) ∧ (x.map Prod.snd)[i + 12 + (ws.getD (k + 1) []).length]? = some (some ((endsL (blk ws ++ Q)).getD (k + 1) 0 - 12)) ∧ (x.map Prod.snd)[i]? = some (some ((endsL (blk ws ++ Q)).getD k 0 - 12)) := by
  obtain ⟨_, s2, s3, s4⟩ := sent_at (Q := Q) h hk
  have at_ : ∀ j, j < (ws.getD (k + 1) []).length + 24 → (x.map Prod.snd)[i + j]? = some (some ((endsL (blk ws ++ Q)).getD k 0 - 12 + j)) := fun j hj => by
    have e1 : (((x.map Prod.snd).drop i).take ((ws.getD (k + 1) []).length + 24))[j]? = some (some ((endsL (blk ws ++ Q)).getD k 0 - 12 + j)) := by
      rw [e, List.getElem?_map, List.getElem?_range hj]
      rfl
    rw [List.getElem?_take_of_lt hj, List.getElem?_drop] at e1
    exact e1
  rcases came_bits ok e with ⟨cb, _⟩ | cb
  · rw [s4] at cb
    have p0 := at_ 0 (by omega)
    rw [Nat.add_zero, Nat.add_zero] at p0
    have pw := at_ (12 + (ws.getD (k + 1) []).length) (by omega)
    generalize hw : ws.getD (k + 1) [] = w' at *
    have li : i < x.length := by
      have := (List.getElem?_eq_some_iff.mp p0).1
      rw [List.length_map] at this
      exact this
    generalize hB : x.map Prod.fst = B at *
    have lB : B.length = x.length := by
      rw [← hB, List.length_map]
    have nm : NoMk w' := by
      rw [← hw, List.getD_eq_getElem?_getD, List.getElem?_eq_getElem hk]
      exact h _ (List.getElem_mem hk)
    have eB : B = B.take i ++ (mkL ++ (w' ++ (mkL ++ (B.drop i).drop (w'.length + 24)))) := by
      have h1 : B.drop i = (B.drop i).take (w'.length + 24) ++ (B.drop i).drop (w'.length + 24) := (List.take_append_drop _ _).symm
      have h2 : B = B.take i ++ B.drop i := (List.take_append_drop _ _).symm
      rw [cb] at h1
      simp only [List.append_assoc] at h1
      rw [← h1, List.take_append_drop]
    have lX : (B.take i).length = i := by
      rw [List.length_take]
      omega
    obtain ⟨s, q1, q2, q3⟩ := stt_inner (X := B.take i) (Y := (B.drop i).drop (w'.length + 24)) nm
    rw [← eB, lX] at q2
    rw [← eB] at q1 q3
    obtain ⟨_, _, r3, _, _⟩ := str_at q1
    have g0 : (endsL B).getD s 0 = i + 12 := by
      rw [List.getD_eq_getElem?_getD, q2]
      rfl
    have g1 : (sttL B).getD s [] = w' ++ mkL := by
      rw [List.getD_eq_getElem?_getD, q3]
      rfl
    rw [g0, g1, List.length_append] at r3
    have r3 : w'.length + 12 = (endsL B).getD (s + 1) 0 - (i + 12) := r3
    refine ⟨s, q2, ?_, q3, ?_, p0⟩
    · rw [List.getD_eq_getElem?_getD, List.getElem?_eq_getElem q1] at r3
      have r3 : w'.length + 12 = (endsL B)[s + 1] - (i + 12) := r3
      rw [List.getElem?_eq_getElem q1]
      congr 1
      omega
    · rw [show i + 12 + w'.length = i + (12 + w'.length) by omega, pw, s3]
      congr 2
      omega
  · omega
end Fp

set_option Elab.async false
set_option linter.all false
set_option maxRecDepth 100000
set_option maxHeartbeats 4000000
set_option pp.maxSteps 3000
namespace K25
open PySem PySem.Spec PyProof.Rows L2 Fp
def topS (i : Nat) : Stmt := PySem.Challenge.pw_farpage_k25_whole_untouched_rows_read.main.body.getD i (.Pass ⟨0, 0, 0, 0⟩)
abbrev s_is_bits : Stmt := topS 1
abbrev N_is_bits : List Str := ["thing"]
abbrev P_is_bits : List Str := ["thing"]
theorem sc_is_bits : FnScope N_is_bits P_is_bits (defScope s_is_bits) := ⟨rfl, rfl, rfl, by decide +kernel, rfl, by decide +kernel, by decide +kernel⟩
abbrev s_first_place : Stmt := topS 2
abbrev N_first_place : List Str := ["text", "wanted", "start", "place"]
abbrev P_first_place : List Str := ["text", "wanted", "start"]
theorem sc_first_place : FnScope N_first_place P_first_place (defScope s_first_place) := ⟨rfl, rfl, rfl, by decide +kernel, rfl, by decide +kernel, by decide +kernel⟩
abbrev s_places_of : Stmt := topS 3
abbrev N_places_of : List Str := ["text", "wanted", "places", "place"]
abbrev P_places_of : List Str := ["text", "wanted"]
theorem sc_places_of : FnScope N_places_of P_places_of (defScope s_places_of) := ⟨rfl, rfl, rfl, by decide +kernel, rfl, by decide +kernel, by decide +kernel⟩
abbrev s_other_cell : Stmt := topS 11
abbrev N_other_cell : List Str := ["cell"]
abbrev P_other_cell : List Str := ["cell"]
theorem sc_other_cell : FnScope N_other_cell P_other_cell (defScope s_other_cell) := ⟨rfl, rfl, rfl, by decide +kernel, rfl, by decide +kernel, by decide +kernel⟩
abbrev s_words_by : Stmt := topS 16
abbrev N_words_by : List Str := ["lengths", "words", "ahead", "place", "begin"]
abbrev P_words_by : List Str := ["lengths"]
theorem sc_words_by : FnScope N_words_by P_words_by (defScope s_words_by) := ⟨rfl, rfl, rfl, by decide +kernel, rfl, by decide +kernel, by decide +kernel⟩
abbrev s_making_order : Stmt := topS 17
abbrev N_making_order : List Str := ["lengths"]
abbrev P_making_order : List Str := ["lengths"]
theorem sc_making_order : FnScope N_making_order P_making_order (defScope s_making_order) := ⟨rfl, rfl, rfl, by decide +kernel, rfl, by decide +kernel, by decide +kernel⟩
abbrev s_one_less : Stmt := topS 18
abbrev N_one_less : List Str := ["word", "last"]
abbrev P_one_less : List Str := ["word"]
theorem sc_one_less : FnScope N_one_less P_one_less (defScope s_one_less) := ⟨rfl, rfl, rfl, by decide +kernel, rfl, by decide +kernel, by decide +kernel⟩
abbrev s_colour_words : Stmt := topS 19
abbrev N_colour_words : List Str := ["cell"]
abbrev P_colour_words : List Str := ["cell"]
theorem sc_colour_words : FnScope N_colour_words P_colour_words (defScope s_colour_words) := ⟨rfl, rfl, rfl, by decide +kernel, rfl, by decide +kernel, by decide +kernel⟩
abbrev s_run_by : Stmt := topS 20
abbrev N_run_by : List Str := ["words", "run", "maker"]
abbrev P_run_by : List Str := ["words", "run"]
theorem sc_run_by : FnScope N_run_by P_run_by (defScope s_run_by) := ⟨rfl, rfl, rfl, by decide +kernel, rfl, by decide +kernel, by decide +kernel⟩
abbrev s_runs_of : Stmt := topS 22
abbrev N_runs_of : List Str := ["row", "runs", "cell", "place", "behind"]
abbrev P_runs_of : List Str := ["row"]
theorem sc_runs_of : FnScope N_runs_of P_runs_of (defScope s_runs_of) := ⟨rfl, rfl, rfl, by decide +kernel, rfl, by decide +kernel, by decide +kernel⟩
abbrev s_plain_bits : Stmt := topS 23
abbrev N_plain_bits : List Str := ["row", "words", "parts", "cell", "run"]
abbrev P_plain_bits : List Str := ["row"]
theorem sc_plain_bits : FnScope N_plain_bits P_plain_bits (defScope s_plain_bits) := ⟨rfl, rfl, rfl, by decide +kernel, rfl, by decide +kernel, by decide +kernel⟩
abbrev s_run_tables : Stmt := topS 24
abbrev N_run_tables : List Str := ["most"]
abbrev P_run_tables : List Str := ["most"]
theorem sc_run_tables : FnScope N_run_tables P_run_tables (defScope s_run_tables) := ⟨rfl, rfl, rfl, by decide +kernel, rfl, by decide +kernel, by decide +kernel⟩
abbrev s_run_table : Stmt := topS 25
abbrev N_run_table : List Str := ["cell", "most", "words", "run"]
abbrev P_run_table : List Str := ["cell", "most"]
theorem sc_run_table : FnScope N_run_table P_run_table (defScope s_run_table) := ⟨rfl, rfl, rfl, by decide +kernel, rfl, by decide +kernel, by decide +kernel⟩
abbrev s_read_by : Stmt := topS 26
abbrev N_read_by : List Str := ["table", "bits", "place", "number", "told"]
abbrev P_read_by : List Str := ["table", "bits", "place"]
theorem sc_read_by : FnScope N_read_by P_read_by (defScope s_read_by) := ⟨rfl, rfl, rfl, by decide +kernel, rfl, by decide +kernel, by decide +kernel⟩
abbrev s_read_plain : Stmt := topS 27
abbrev N_read_plain : List Str := ["breadth", "thing", "tables", "row", "many", "cell", "run"]
abbrev P_read_plain : List Str := ["breadth", "thing"]
theorem sc_read_plain : FnScope N_read_plain P_read_plain (defScope s_read_plain) := ⟨rfl, rfl, rfl, by decide +kernel, rfl, by decide +kernel, by decide +kernel⟩
abbrev s_above_steps : Stmt := topS 33
abbrev N_above_steps : List Str := ["above", "row", "steps", "place", "colour", "step"]
abbrev P_above_steps : List Str := ["above", "row"]
theorem sc_above_steps : FnScope N_above_steps P_above_steps (defScope s_above_steps) := ⟨rfl, rfl, rfl, by decide +kernel, rfl, by decide +kernel, by decide +kernel⟩
abbrev s_step_at : Stmt := topS 34
abbrev N_step_at : List Str := ["above", "row", "place", "colour", "change", "change_above", "behind"]
abbrev P_step_at : List Str := ["above", "row", "place", "colour"]
theorem sc_step_at : FnScope N_step_at P_step_at (defScope s_step_at) := ⟨rfl, rfl, rfl, by decide +kernel, rfl, by decide +kernel, by decide +kernel⟩
abbrev s_first_change : Stmt := topS 35
abbrev N_first_change : List Str := ["above", "place", "colour", "start"]
abbrev P_first_change : List Str := ["above", "place", "colour"]
theorem sc_first_change : FnScope N_first_change P_first_change (defScope s_first_change) := ⟨rfl, rfl, rfl, by decide +kernel, rfl, by decide +kernel, by decide +kernel⟩
abbrev s_led_to : Stmt := topS 36
abbrev N_led_to : List Str := ["above", "place", "colour", "step", "change_above"]
abbrev P_led_to : List Str := ["above", "place", "colour", "step"]
theorem sc_led_to : FnScope N_led_to P_led_to (defScope s_led_to) := ⟨rfl, rfl, rfl, by decide +kernel, rfl, by decide +kernel, by decide +kernel⟩
abbrev s_colour_behind : Stmt := topS 37
abbrev N_colour_behind : List Str := ["colour", "step"]
abbrev P_colour_behind : List Str := ["colour", "step"]
theorem sc_colour_behind : FnScope N_colour_behind P_colour_behind (defScope s_colour_behind) := ⟨rfl, rfl, rfl, by decide +kernel, rfl, by decide +kernel, by decide +kernel⟩
abbrev s_above_bits : Stmt := topS 38
abbrev N_above_bits : List Str := ["above", "row", "words", "tables", "parts", "colour", "step"]
abbrev P_above_bits : List Str := ["above", "row"]
theorem sc_above_bits : FnScope N_above_bits P_above_bits (defScope s_above_bits) := ⟨rfl, rfl, rfl, by decide +kernel, rfl, by decide +kernel, by decide +kernel⟩
abbrev s_step_bits : Stmt := topS 39
abbrev N_step_bits : List Str := ["words", "tables", "colour", "step", "word"]
abbrev P_step_bits : List Str := ["words", "tables", "colour", "step"]
theorem sc_step_bits : FnScope N_step_bits P_step_bits (defScope s_step_bits) := ⟨rfl, rfl, rfl, by decide +kernel, rfl, by decide +kernel, by decide +kernel⟩
abbrev s_read_above : Stmt := topS 40
abbrev N_read_above : List Str := ["above", "thing", "words", "tables", "row", "many", "place", "colour", "step"]
abbrev P_read_above : List Str := ["above", "thing"]
theorem sc_read_above : FnScope N_read_above P_read_above (defScope s_read_above) := ⟨rfl, rfl, rfl, by decide +kernel, rfl, by decide +kernel, by decide +kernel⟩
abbrev s_read_step : Stmt := topS 41
abbrev N_read_step : List Str := ["words", "tables", "colour", "bits", "place", "number", "step", "run"]
abbrev P_read_step : List Str := ["words", "tables", "colour", "bits", "place"]
theorem sc_read_step : FnScope N_read_step P_read_step (defScope s_read_step) := ⟨rfl, rfl, rfl, by decide +kernel, rfl, by decide +kernel, by decide +kernel⟩
abbrev s_row_behind : Stmt := topS 42
abbrev N_row_behind : List Str := ["above", "row", "place", "colour", "step", "full"]
abbrev P_row_behind : List Str := ["above", "row", "place", "colour", "step"]
theorem sc_row_behind : FnScope N_row_behind P_row_behind (defScope s_row_behind) := ⟨rfl, rfl, rfl, by decide +kernel, rfl, by decide +kernel, by decide +kernel⟩
abbrev s_page_bits : Stmt := topS 50
abbrev N_page_bits : List Str := ["page", "every", "least", "parts", "number"]
abbrev P_page_bits : List Str := ["page", "every", "least"]
theorem sc_page_bits : FnScope N_page_bits P_page_bits (defScope s_page_bits) := ⟨rfl, rfl, rfl, by decide +kernel, rfl, by decide +kernel, by decide +kernel⟩
abbrev s_row_bits : Stmt := topS 51
abbrev N_row_bits : List Str := ["page", "number", "every", "row"]
abbrev P_row_bits : List Str := ["page", "number", "every"]
theorem sc_row_bits : FnScope N_row_bits P_row_bits (defScope s_row_bits) := ⟨rfl, rfl, rfl, by decide +kernel, rfl, by decide +kernel, by decide +kernel⟩
abbrev s_mark_ends : Stmt := topS 52
abbrev N_mark_ends : List Str := ["bits", "place"]
abbrev P_mark_ends : List Str := ["bits"]
theorem sc_mark_ends : FnScope N_mark_ends P_mark_ends (defScope s_mark_ends) := ⟨rfl, rfl, rfl, by decide +kernel, rfl, by decide +kernel, by decide +kernel⟩
abbrev s_stretches : Stmt := topS 53
abbrev N_stretches : List Str := ["bits", "ends", "found", "at"]
abbrev P_stretches : List Str := ["bits"]
theorem sc_stretches : FnScope N_stretches P_stretches (defScope s_stretches) := ⟨rfl, rfl, rfl, by decide +kernel, rfl, by decide +kernel, by decide +kernel⟩
abbrev s_is_empty : Stmt := topS 54
abbrev N_is_empty : List Str := ["stretch"]
abbrev P_is_empty : List Str := ["stretch"]
theorem sc_is_empty : FnScope N_is_empty P_is_empty (defScope s_is_empty) := ⟨rfl, rfl, rfl, by decide +kernel, rfl, by decide +kernel, by decide +kernel⟩
abbrev s_read_bits : Stmt := topS 55
abbrev N_read_bits : List Str := ["breadth", "bits", "found", "met", "rows", "ahead", "stretch"]
abbrev P_read_bits : List Str := ["breadth", "bits"]
theorem sc_read_bits : FnScope N_read_bits P_read_bits (defScope s_read_bits) := ⟨rfl, rfl, rfl, by decide +kernel, rfl, by decide +kernel, by decide +kernel⟩
abbrev s_told_row : Stmt := topS 56
abbrev N_told_row : List Str := ["breadth", "ahead", "stretch"]
abbrev P_told_row : List Str := ["breadth", "ahead", "stretch"]
theorem sc_told_row : FnScope N_told_row P_told_row (defScope s_told_row) := ⟨rfl, rfl, rfl, by decide +kernel, rfl, by decide +kernel, by decide +kernel⟩
abbrev s_good_row : Stmt := topS 57
abbrev N_good_row : List Str := ["breadth", "ahead", "stretch", "told", "row", "many"]
abbrev P_good_row : List Str := ["breadth", "ahead", "stretch"]
theorem sc_good_row : FnScope N_good_row P_good_row (defScope s_good_row) := ⟨rfl, rfl, rfl, by decide +kernel, rfl, by decide +kernel, by decide +kernel⟩
abbrev s_bag : Stmt := topS 59
abbrev N_bag : List Str := ["_law_script", "_law_at", "_law_cell", "_law_great"]
abbrev P_bag : List Str := ["_law_script", "_law_at"]
theorem sc_bag : FnScope N_bag P_bag (defScope s_bag) := ⟨rfl, rfl, rfl, by decide +kernel, rfl, by decide +kernel, by decide +kernel⟩
abbrev s_draw : Stmt := topS 60
abbrev N_draw : List Str := ["_law_bag_here", "_law_many", "_law_digit"]
abbrev P_draw : List Str := ["_law_bag_here", "_law_many"]
theorem sc_draw : FnScope N_draw P_draw (defScope s_draw) := ⟨rfl, rfl, rfl, by decide +kernel, rfl, by decide +kernel, by decide +kernel⟩
abbrev s_row : Stmt := topS 61
abbrev N_row : List Str := ["_law_bag_here", "_law_breadth", "_law_above", "_law_way", "_law_row_here", "_law_most", "_law_colour", "_law_left", "_law_place", "_law_turn"]
abbrev P_row : List Str := ["_law_bag_here", "_law_breadth", "_law_above"]
theorem sc_row : FnScope N_row P_row (defScope s_row) := ⟨rfl, rfl, rfl, by decide +kernel, rfl, by decide +kernel, by decide +kernel⟩
abbrev s_page : Stmt := topS 62
abbrev N_page : List Str := ["_law_bag_here", "_law_most_cells", "_law_most_rows", "_law_breadth", "_law_many", "_law_rows", "_law_k"]
abbrev P_page : List Str := ["_law_bag_here", "_law_most_cells", "_law_most_rows"]
theorem sc_page : FnScope N_page P_page (defScope s_page) := ⟨rfl, rfl, rfl, by decide +kernel, rfl, by decide +kernel, by decide +kernel⟩
abbrev s_spoils : Stmt := topS 63
abbrev N_spoils : List Str := ["_law_bag_here", "_law_many", "_law_most", "_law_found", "_law_k", "_law_word", "_law_place"]
abbrev P_spoils : List Str := ["_law_bag_here", "_law_many", "_law_most"]
theorem sc_spoils : FnScope N_spoils P_spoils (defScope s_spoils) := ⟨rfl, rfl, rfl, by decide +kernel, rfl, by decide +kernel, by decide +kernel⟩
abbrev s_lmark_ends : Stmt := topS 64
abbrev N_lmark_ends : List Str := ["_law_bits", "_law_found", "_law_place"]
abbrev P_lmark_ends : List Str := ["_law_bits"]
theorem sc_lmark_ends : FnScope N_lmark_ends P_lmark_ends (defScope s_lmark_ends) := ⟨rfl, rfl, rfl, by decide +kernel, rfl, by decide +kernel, by decide +kernel⟩
abbrev s_lstretches : Stmt := topS 65
abbrev N_lstretches : List Str := ["_law_bits", "_law_ends", "_law_found", "_law_k", "_law_one"]
abbrev P_lstretches : List Str := ["_law_bits"]
theorem sc_lstretches : FnScope N_lstretches P_lstretches (defScope s_lstretches) := ⟨rfl, rfl, rfl, by decide +kernel, rfl, by decide +kernel, by decide +kernel⟩
abbrev s_followed : Stmt := topS 66
abbrev N_followed : List Str := ["_law_bits", "_law_spoils_here", "_law_found", "_law_spoil", "_law_at", "_law_place"]
abbrev P_followed : List Str := ["_law_bits", "_law_spoils_here"]
theorem sc_followed : FnScope N_followed P_followed (defScope s_followed) := ⟨rfl, rfl, rfl, by decide +kernel, rfl, by decide +kernel, by decide +kernel⟩
abbrev s_came : Stmt := topS 67
abbrev N_came : List Str := ["_law_places", "_law_begin", "_law_end", "_law_at"]
abbrev P_came : List Str := ["_law_places", "_law_begin", "_law_end"]
theorem sc_came : FnScope N_came P_came (defScope s_came) := ⟨rfl, rfl, rfl, by decide +kernel, rfl, by decide +kernel, by decide +kernel⟩
abbrev s_good : Stmt := topS 68
abbrev N_good : List Str := ["_law_page_here", "_law_every", "_law_sent", "_law_arrived", "_law_told", "_law_bits", "_law_places", "_law_ends", "_law_here", "_law_holds", "_law_number", "_law_at", "_law_stretch", "_law_bit", "_law_place"]
abbrev P_good : List Str := ["_law_page_here", "_law_every", "_law_sent", "_law_arrived", "_law_told"]
theorem sc_good : FnScope N_good P_good (defScope s_good) := ⟨rfl, rfl, rfl, by decide +kernel, rfl, by decide +kernel, by decide +kernel⟩
abbrev s_law : Stmt := topS 69
abbrev N_law : List Str := ["_law_script", "_law_k", "_law_bag_here", "_law_page_here", "_law_every", "_law_sent", "_law_many", "_law_arrived", "_law_told", "_law_bit", "_law_place"]
abbrev P_law : List Str := ["_law_script"]
theorem sc_law : FnScope N_law P_law (defScope s_law) := ⟨rfl, rfl, rfl, by decide +kernel, rfl, by decide +kernel, by decide +kernel⟩
structure Ad where
  a_is_bits : Addr
  d_is_bits : FuncData
  a_first_place : Addr
  d_first_place : FuncData
  a_places_of : Addr
  d_places_of : FuncData
  a_other_cell : Addr
  d_other_cell : FuncData
  a_words_by : Addr
  d_words_by : FuncData
  a_making_order : Addr
  d_making_order : FuncData
  a_one_less : Addr
  d_one_less : FuncData
  a_colour_words : Addr
  d_colour_words : FuncData
  a_run_by : Addr
  d_run_by : FuncData
  a_runs_of : Addr
  d_runs_of : FuncData
  a_plain_bits : Addr
  d_plain_bits : FuncData
  a_run_tables : Addr
  d_run_tables : FuncData
  a_run_table : Addr
  d_run_table : FuncData
  a_read_by : Addr
  d_read_by : FuncData
  a_read_plain : Addr
  d_read_plain : FuncData
  a_above_steps : Addr
  d_above_steps : FuncData
  a_step_at : Addr
  d_step_at : FuncData
  a_first_change : Addr
  d_first_change : FuncData
  a_led_to : Addr
  d_led_to : FuncData
  a_colour_behind : Addr
  d_colour_behind : FuncData
  a_above_bits : Addr
  d_above_bits : FuncData
  a_step_bits : Addr
  d_step_bits : FuncData
  a_read_above : Addr
  d_read_above : FuncData
  a_read_step : Addr
  d_read_step : FuncData
  a_row_behind : Addr
  d_row_behind : FuncData
  a_page_bits : Addr
  d_page_bits : FuncData
  a_row_bits : Addr
  d_row_bits : FuncData
  a_mark_ends : Addr
  d_mark_ends : FuncData
  a_stretches : Addr
  d_stretches : FuncData
  a_is_empty : Addr
  d_is_empty : FuncData
  a_read_bits : Addr
  d_read_bits : FuncData
  a_told_row : Addr
  d_told_row : FuncData
  a_good_row : Addr
  d_good_row : FuncData
  a_bag : Addr
  d_bag : FuncData
  a_draw : Addr
  d_draw : FuncData
  a_row : Addr
  d_row : FuncData
  a_page : Addr
  d_page : FuncData
  a_spoils : Addr
  d_spoils : FuncData
  a_lmark_ends : Addr
  d_lmark_ends : FuncData
  a_lstretches : Addr
  d_lstretches : FuncData
  a_followed : Addr
  d_followed : FuncData
  a_came : Addr
  d_came : FuncData
  a_good : Addr
  d_good : FuncData
  a_law : Addr
  d_law : FuncData
  t_ABOVE_TAG : Tok
  t_AHEAD : Tok
  t_DARK : Tok
  t_ENDS : Tok
  t_END_MARKS : Tok
  t_GUESSED : Tok
  t_LENGTHS_above : Addr
  t_LENGTHS_words : Addr
  t_LIGHT : Tok
  t_MAKERS : Tok
  t_MARK : Tok
  t_MOST_NEAR : Tok
  t_PLAIN_TAG : Tok
  t_READ : Tok
  t_STEPS : Addr
  k_making_order : Addr
  p_making_order : Addr
  u_LENGTHS_words_0 : Addr
  u_LENGTHS_words_1 : Addr
  v_STEPS_0 : Addr
  v_STEPS_1 : Addr
  v_STEPS_2 : Addr
  v_STEPS_3 : Addr
  v_STEPS_4 : Addr
  v_STEPS_5 : Addr
  v_STEPS_6 : Addr
  v_STEPS_7 : Addr
  v_STEPS_8 : Addr
  x_NoTelling : Addr
structure Txt (w : World) (K : PySem.W.Frag) (mg : Str → Option Value) (base : Heap) (A : Ad) : Prop where
  F_is_bits : Fun K "is_bits" "is_bits" s_is_bits A.a_is_bits A.d_is_bits
  b_is_bits : Binds K A.d_is_bits P_is_bits []
  g_is_bits : mg "is_bits" = some (.ref A.a_is_bits)
  F_first_place : Fun K "first_place" "first_place" s_first_place A.a_first_place A.d_first_place
  b_first_place : Binds K A.d_first_place P_first_place []
  g_first_place : mg "first_place" = some (.ref A.a_first_place)
  F_places_of : Fun K "places_of" "places_of" s_places_of A.a_places_of A.d_places_of
  b_places_of : Binds K A.d_places_of P_places_of []
  g_places_of : mg "places_of" = some (.ref A.a_places_of)
  F_other_cell : Fun K "other_cell" "other_cell" s_other_cell A.a_other_cell A.d_other_cell
  b_other_cell : Binds K A.d_other_cell P_other_cell []
  g_other_cell : mg "other_cell" = some (.ref A.a_other_cell)
  F_words_by : Fun K "words_by" "words_by" s_words_by A.a_words_by A.d_words_by
  b_words_by : Binds K A.d_words_by P_words_by []
  g_words_by : mg "words_by" = some (.ref A.a_words_by)
  F_making_order : Fun K "making_order" "making_order" s_making_order A.a_making_order A.d_making_order
  b_making_order : Binds K A.d_making_order P_making_order []
  g_making_order : mg "making_order" = some (.ref A.a_making_order)
  F_one_less : Fun K "one_less" "one_less" s_one_less A.a_one_less A.d_one_less
  b_one_less : Binds K A.d_one_less P_one_less []
  g_one_less : mg "one_less" = some (.ref A.a_one_less)
  F_colour_words : Fun K "colour_words" "colour_words" s_colour_words A.a_colour_words A.d_colour_words
  b_colour_words : Binds K A.d_colour_words P_colour_words []
  g_colour_words : mg "colour_words" = some (.ref A.a_colour_words)
  F_run_by : Fun K "run_by" "run_by" s_run_by A.a_run_by A.d_run_by
  b_run_by : Binds K A.d_run_by P_run_by []
  g_run_by : mg "run_by" = some (.ref A.a_run_by)
  F_runs_of : Fun K "runs_of" "runs_of" s_runs_of A.a_runs_of A.d_runs_of
  b_runs_of : Binds K A.d_runs_of P_runs_of []
  g_runs_of : mg "runs_of" = some (.ref A.a_runs_of)
  F_plain_bits : Fun K "plain_bits" "plain_bits" s_plain_bits A.a_plain_bits A.d_plain_bits
  b_plain_bits : Binds K A.d_plain_bits P_plain_bits []
  g_plain_bits : mg "plain_bits" = some (.ref A.a_plain_bits)
  F_run_tables : Fun K "run_tables" "run_tables" s_run_tables A.a_run_tables A.d_run_tables
  b_run_tables : Binds K A.d_run_tables P_run_tables []
  g_run_tables : mg "run_tables" = some (.ref A.a_run_tables)
  F_run_table : Fun K "run_table" "run_table" s_run_table A.a_run_table A.d_run_table
  b_run_table : Binds K A.d_run_table P_run_table []
  g_run_table : mg "run_table" = some (.ref A.a_run_table)
  F_read_by : Fun K "read_by" "read_by" s_read_by A.a_read_by A.d_read_by
  b_read_by : Binds K A.d_read_by P_read_by []
  g_read_by : mg "read_by" = some (.ref A.a_read_by)
  F_read_plain : Fun K "read_plain" "read_plain" s_read_plain A.a_read_plain A.d_read_plain
  b_read_plain : Binds K A.d_read_plain P_read_plain []
  g_read_plain : mg "read_plain" = some (.ref A.a_read_plain)
  F_above_steps : Fun K "above_steps" "above_steps" s_above_steps A.a_above_steps A.d_above_steps
  b_above_steps : Binds K A.d_above_steps P_above_steps []
  g_above_steps : mg "above_steps" = some (.ref A.a_above_steps)
  F_step_at : Fun K "step_at" "step_at" s_step_at A.a_step_at A.d_step_at
  b_step_at : Binds K A.d_step_at P_step_at []
  g_step_at : mg "step_at" = some (.ref A.a_step_at)
  F_first_change : Fun K "first_change" "first_change" s_first_change A.a_first_change A.d_first_change
  b_first_change : Binds K A.d_first_change P_first_change []
  g_first_change : mg "first_change" = some (.ref A.a_first_change)
  F_led_to : Fun K "led_to" "led_to" s_led_to A.a_led_to A.d_led_to
  b_led_to : Binds K A.d_led_to P_led_to []
  g_led_to : mg "led_to" = some (.ref A.a_led_to)
  F_colour_behind : Fun K "colour_behind" "colour_behind" s_colour_behind A.a_colour_behind A.d_colour_behind
  b_colour_behind : Binds K A.d_colour_behind P_colour_behind []
  g_colour_behind : mg "colour_behind" = some (.ref A.a_colour_behind)
  F_above_bits : Fun K "above_bits" "above_bits" s_above_bits A.a_above_bits A.d_above_bits
  b_above_bits : Binds K A.d_above_bits P_above_bits []
  g_above_bits : mg "above_bits" = some (.ref A.a_above_bits)
  F_step_bits : Fun K "step_bits" "step_bits" s_step_bits A.a_step_bits A.d_step_bits
  b_step_bits : Binds K A.d_step_bits P_step_bits []
  g_step_bits : mg "step_bits" = some (.ref A.a_step_bits)
  F_read_above : Fun K "read_above" "read_above" s_read_above A.a_read_above A.d_read_above
  b_read_above : Binds K A.d_read_above P_read_above []
  g_read_above : mg "read_above" = some (.ref A.a_read_above)
  F_read_step : Fun K "read_step" "read_step" s_read_step A.a_read_step A.d_read_step
  b_read_step : Binds K A.d_read_step P_read_step []
  g_read_step : mg "read_step" = some (.ref A.a_read_step)
  F_row_behind : Fun K "row_behind" "row_behind" s_row_behind A.a_row_behind A.d_row_behind
  b_row_behind : Binds K A.d_row_behind P_row_behind []
  g_row_behind : mg "row_behind" = some (.ref A.a_row_behind)
  F_page_bits : Fun K "page_bits" "page_bits" s_page_bits A.a_page_bits A.d_page_bits
  b_page_bits : Binds K A.d_page_bits P_page_bits []
  g_page_bits : mg "page_bits" = some (.ref A.a_page_bits)
  F_row_bits : Fun K "row_bits" "row_bits" s_row_bits A.a_row_bits A.d_row_bits
  b_row_bits : Binds K A.d_row_bits P_row_bits []
  g_row_bits : mg "row_bits" = some (.ref A.a_row_bits)
  F_mark_ends : Fun K "mark_ends" "mark_ends" s_mark_ends A.a_mark_ends A.d_mark_ends
  b_mark_ends : Binds K A.d_mark_ends P_mark_ends []
  g_mark_ends : mg "mark_ends" = some (.ref A.a_mark_ends)
  F_stretches : Fun K "stretches" "stretches" s_stretches A.a_stretches A.d_stretches
  b_stretches : Binds K A.d_stretches P_stretches []
  g_stretches : mg "stretches" = some (.ref A.a_stretches)
  F_is_empty : Fun K "is_empty" "is_empty" s_is_empty A.a_is_empty A.d_is_empty
  b_is_empty : Binds K A.d_is_empty P_is_empty []
  g_is_empty : mg "is_empty" = some (.ref A.a_is_empty)
  F_read_bits : Fun K "read_bits" "read_bits" s_read_bits A.a_read_bits A.d_read_bits
  b_read_bits : Binds K A.d_read_bits P_read_bits []
  g_read_bits : mg "read_bits" = some (.ref A.a_read_bits)
  F_told_row : Fun K "told_row" "told_row" s_told_row A.a_told_row A.d_told_row
  b_told_row : Binds K A.d_told_row P_told_row []
  g_told_row : mg "told_row" = some (.ref A.a_told_row)
  F_good_row : Fun K "good_row" "good_row" s_good_row A.a_good_row A.d_good_row
  b_good_row : Binds K A.d_good_row P_good_row []
  g_good_row : mg "good_row" = some (.ref A.a_good_row)
  F_bag : Fun K "_law_bag" "_law_bag" s_bag A.a_bag A.d_bag
  b_bag : Binds K A.d_bag P_bag []
  g_bag : mg "_law_bag" = some (.ref A.a_bag)
  F_draw : Fun K "_law_draw" "_law_draw" s_draw A.a_draw A.d_draw
  b_draw : Binds K A.d_draw P_draw []
  g_draw : mg "_law_draw" = some (.ref A.a_draw)
  F_row : Fun K "_law_row" "_law_row" s_row A.a_row A.d_row
  b_row : Binds K A.d_row P_row []
  g_row : mg "_law_row" = some (.ref A.a_row)
  F_page : Fun K "_law_page" "_law_page" s_page A.a_page A.d_page
  b_page : Binds K A.d_page P_page []
  g_page : mg "_law_page" = some (.ref A.a_page)
  F_spoils : Fun K "_law_spoils" "_law_spoils" s_spoils A.a_spoils A.d_spoils
  b_spoils : Binds K A.d_spoils P_spoils []
  g_spoils : mg "_law_spoils" = some (.ref A.a_spoils)
  F_lmark_ends : Fun K "_law_mark_ends" "_law_mark_ends" s_lmark_ends A.a_lmark_ends A.d_lmark_ends
  b_lmark_ends : Binds K A.d_lmark_ends P_lmark_ends []
  g_lmark_ends : mg "_law_mark_ends" = some (.ref A.a_lmark_ends)
  F_lstretches : Fun K "_law_stretches" "_law_stretches" s_lstretches A.a_lstretches A.d_lstretches
  b_lstretches : Binds K A.d_lstretches P_lstretches []
  g_lstretches : mg "_law_stretches" = some (.ref A.a_lstretches)
  F_followed : Fun K "_law_followed" "_law_followed" s_followed A.a_followed A.d_followed
  b_followed : Binds K A.d_followed P_followed []
  g_followed : mg "_law_followed" = some (.ref A.a_followed)
  F_came : Fun K "_law_came" "_law_came" s_came A.a_came A.d_came
  b_came : Binds K A.d_came P_came []
  g_came : mg "_law_came" = some (.ref A.a_came)
  F_good : Fun K "_law_good" "_law_good" s_good A.a_good A.d_good
  b_good : Binds K A.d_good P_good []
  g_good : mg "_law_good" = some (.ref A.a_good)
  F_law : Fun K "law" "law" s_law A.a_law A.d_law
  g_law : mg "law" = some (.ref A.a_law)
  TB_making_order : LamX.TabB base mg A.k_making_order A.p_making_order
  L_making_order : ∃ (oc : Value) (od : Option Addr) (kV doc pm : Value) (an : Option Addr) (ct : Value) (osl : Array (Option Value)), K.lookup A.a_making_order = some ⟨oc, od, .func (PySem.W.fnOf "making_order" "making_order" (defArgs s_making_order) (defBody s_making_order) (defScope s_making_order) .none kV doc pm an (.ref A.k_making_order) ct), osl⟩ ∧ PySem.W.codeIn K (.ref A.k_making_order) "making_order" = true
  D_LENGTHS_words_0 : KDct K w A.t_LENGTHS_words (Str.ofString ".") (.ref A.u_LENGTHS_words_0)
  S_LENGTHS_words_0 : ∀ H : Hp, SqT K H A.u_LENGTHS_words_0 [.int 6, .int 4, .int 4, .int 4, .int 4, .int 4, .int 5, .int 5, .int 5, .int 5, .int 6, .int 6, .int 6, .int 6, .int 6, .int 6, .int 4, .int 5, .int 6, .int 4]
  D_LENGTHS_words_1 : KDct K w A.t_LENGTHS_words (Str.ofString "#") (.ref A.u_LENGTHS_words_1)
  S_LENGTHS_words_1 : ∀ H : Hp, SqT K H A.u_LENGTHS_words_1 [.int 7, .int 2, .int 3, .int 3, .int 4, .int 4, .int 5, .int 5, .int 5, .int 6, .int 6, .int 6, .int 7, .int 7, .int 7, .int 7, .int 6, .int 7, .int 7, .int 7]
  S_LENGTHS_above : ∀ H : Hp, SqT K H A.t_LENGTHS_above [.int 1, .int 3, .int 3, .int 3, .int 5, .int 5, .int 6, .int 6, .int 6]
  Y_LENGTHS_above : ∃ o, K.lookup A.t_LENGTHS_above = some o ∧ o.cls = .type "tuple" ∧ o.dict = none
  S_STEPS : ∀ H : Hp, SqT K H A.t_STEPS [.ref A.v_STEPS_0, .ref A.v_STEPS_1, .ref A.v_STEPS_2, .ref A.v_STEPS_3, .ref A.v_STEPS_4, .ref A.v_STEPS_5, .ref A.v_STEPS_6, .ref A.v_STEPS_7, .ref A.v_STEPS_8]
  Y_STEPS : ∃ o, K.lookup A.t_STEPS = some o ∧ o.cls = .type "tuple" ∧ o.dict = none
  S_STEPS_0 : ∀ H : Hp, SqT K H A.v_STEPS_0 [.str (Str.ofString "near"), .int 0]
  S_STEPS_1 : ∀ H : Hp, SqT K H A.v_STEPS_1 [.str (Str.ofString "near"), .int 1]
  S_STEPS_2 : ∀ H : Hp, SqT K H A.v_STEPS_2 [.str (Str.ofString "near"), .int (-1)]
  S_STEPS_3 : ∀ H : Hp, SqT K H A.v_STEPS_3 [.str (Str.ofString "plain")]
  S_STEPS_4 : ∀ H : Hp, SqT K H A.v_STEPS_4 [.str (Str.ofString "passed")]
  S_STEPS_5 : ∀ H : Hp, SqT K H A.v_STEPS_5 [.str (Str.ofString "near"), .int 2]
  S_STEPS_6 : ∀ H : Hp, SqT K H A.v_STEPS_6 [.str (Str.ofString "near"), .int (-2)]
  S_STEPS_7 : ∀ H : Hp, SqT K H A.v_STEPS_7 [.str (Str.ofString "near"), .int 3]
  S_STEPS_8 : ∀ H : Hp, SqT K H A.v_STEPS_8 [.str (Str.ofString "near"), .int (-3)]
  xg_NoTelling : mg "NoTelling" = some (.ref A.x_NoTelling)
  xq_NoTelling : PySem.W.excIn K A.x_NoTelling veB "ValueError.__new__" = true
  xk_NoTelling : PySem.W.keepIn K (.ref A.x_NoTelling) = true
  xs_NoTelling : PySem.W.subIn K (.ref A.x_NoTelling) (.type "BaseException") = some true
  xt_NoTelling : PySem.W.typeIn K (.ref A.x_NoTelling) = some (.type "type")
  xm_NoTelling : PySem.W.exmOne K (.ref A.x_NoTelling) (.ref A.x_NoTelling) = some true
  z_abs : mg "abs" = none
  z_all : mg "all" = none
  z_enumerate : mg "enumerate" = none
  z_int : mg "int" = none
  z_isinstance : mg "isinstance" = none
  z_len : mg "len" = none
  z_list : mg "list" = none
  z_max : mg "max" = none
  z_min : mg "min" = none
  z_range : mg "range" = none
  z_sorted : mg "sorted" = none
  z_str : mg "str" = none
  z_tuple : mg "tuple" = none
  c_ABOVE_TAG : mg "ABOVE_TAG" = some (.str "0" A.t_ABOVE_TAG)
  c_AHEAD : mg "AHEAD" = some (.int (-1) A.t_AHEAD)
  c_DARK : mg "DARK" = some (.str "#" A.t_DARK)
  c_ENDS : mg "ENDS" = some (.int (16) A.t_ENDS)
  c_END_MARKS : mg "END_MARKS" = some (.int (6) A.t_END_MARKS)
  c_GUESSED : mg "GUESSED" = some (.str "guessed" A.t_GUESSED)
  c_LENGTHS_above : mg "LENGTHS_above" = some (.ref A.t_LENGTHS_above)
  c_LENGTHS_words : mg "LENGTHS_words" = some (.ref A.t_LENGTHS_words)
  c_LIGHT : mg "LIGHT" = some (.str "." A.t_LIGHT)
  c_MAKERS : mg "MAKERS" = some (.int (4) A.t_MAKERS)
  c_MARK : mg "MARK" = some (.str "000000000001" A.t_MARK)
  c_MOST_NEAR : mg "MOST_NEAR" = some (.int (3) A.t_MOST_NEAR)
  c_PLAIN_TAG : mg "PLAIN_TAG" = some (.str "1" A.t_PLAIN_TAG)
  c_READ : mg "READ" = some (.str "read" A.t_READ)
  c_STEPS : mg "STEPS" = some (.ref A.t_STEPS)
section
variable {P : Program} {w : World} {K : PySem.W.Frag} {mg : Str → Option Value} {base : Heap}
def spBag (K : PySem.W.Frag) : Sp := fun vs H Q _ => ∃ (a : Addr) (ns : List Int) (k : Int), vs = [.ref a, .int k] ∧ SqL K H a (ns.map V.int) ∧ 0 ≤ k ∧ k ≤ 1000 ∧
  ∀ p g s, H p = none → 0 ≤ g → 0 ≤ s → s < 1000000000000 → Q (.ref p) (upd H p (.lst [.int g, .int s]))
theorem ok_bag {A : Ad} (T : Txt w K mg base A) : FnOk P w K mg base CX0 1 A.a_bag A.d_bag P_bag (spBag K) := by
  refine T.F_bag.ok sc_bag (fun vs H Q E h => ?_) (fun cdv Ar outer s H vs Q E hr h => ?_)
  · obtain ⟨a, ns, k, rfl, _⟩ := h
    rfl
  · obtain ⟨a, ns, k, rfl, hS, k0, k1, q⟩ := h
    refine ⟨_, (pss_cons (ps_set (i := 2) sc_bag.nd rfl (Or.inl rfl) pe_int)
      (pss_cons (ps_if (pt_cmpR op_lt (pv 1) (pe_callB (r := fun xs H Q => ∃ p ys, xs = [.ref p] ∧ (SqL K H p ys ∨ SqT K H p ys) ∧ Q (.int ys.length) H) call_len_seq (by rfl) T.z_len PySem.boot_len (pa_cons (pv 0) pa_nil)) (nomark _))
      (pss_one (ps_set (i := 2) sc_bag.nd rfl (Or.inl rfl) (pe_ix (r := rIxL K) ix_list (pv 0) (pv 1) (fun _ _ => rfl)))) pss_nil)
      (pss_cons (ps_set (i := 3) sc_bag.nd rfl (Or.inl rfl) pe_int)
      (pss_cons (ps_if (pt_cmpR op_ge (pe_callB call_abs (by rfl) T.z_abs (by decide +kernel) (pa_cons (pv 2) pa_nil)) (pe_op op_pow pe_int pe_int) (nomark _))
      (pss_one (ps_set (i := 3) sc_bag.nd rfl (Or.inl rfl) (pe_callB call_abs (by rfl) T.z_abs (by decide +kernel) (pa_cons (pv 2) pa_nil)))) pss_nil)
      (pss_one (ps_ret (pe_lst (pa_cons (pv 3) (pa_cons (pe_op op_add (pe_op op_add (pe_op op_mul (pe_op op_mod (pv 2) pe_int) pe_int) (pe_op op_mul pe_int (pv 1))) pe_int) pa_nil))))))))), ?_⟩
    have fin : ∀ (c g : Int), 0 ≤ g → tSeq (tIfS (tTest (tOp (rI0 fun i j => .bl (decide (j ≤ i))) (tCB (fun xs H Q => ∃ i, xs = [.int i] ∧ Q (.int (if i < 0 then -i else i)) H) (tCons (tVar 2) tNil)) (tOp (rI CPow fun i j => .int (i ^ j.toNat)) (tC (.int 10)) (tC (.int 18))))) (tAsg (tCB (fun xs H Q => ∃ i, xs = [.int i] ∧ Q (.int (if i < 0 then -i else i)) H) (tCons (tVar 2) tNil)) (gName 3)) tNext)
        (tRet (tLst (tCons (tVar 3) (tCons (tOp (rI0 fun i j => .int (i + j)) (tOp (rI0 fun i j => .int (i + j)) (tOp (rI CMul fun i j => .int (i * j)) (tOp (rI (fun _ j => 0 < j) fun i j => .int (i % j)) (tVar 2) (tC (.int 1000000007))) (tC (.int 7))) (tOp (rI CMul fun i j => .int (i * j)) (tC (.int 1013)) (tVar 1))) (tC (.int 5))) tNil)))) { nx := fun _ H' => Q .non H', rt := Q } [some (.ref a), some (.int k), some (.int c), some (.int g)] H := by
      intro c g g0
      have fin2 : ∀ (g : Int), 0 ≤ g → tRet (tLst (tCons (tVar 3) (tCons (tOp (rI0 fun i j => .int (i + j)) (tOp (rI0 fun i j => .int (i + j)) (tOp (rI CMul fun i j => .int (i * j)) (tOp (rI (fun _ j => 0 < j) fun i j => .int (i % j)) (tVar 2) (tC (.int 1000000007))) (tC (.int 7))) (tOp (rI CMul fun i j => .int (i * j)) (tC (.int 1013)) (tVar 1))) (tC (.int 5))) tNil))) { nx := fun _ H' => Q .non H', rt := Q } [some (.ref a), some (.int k), some (.int c), some (.int g)] H := by
        intro g g0
        have m0 := Int.emod_nonneg c (show (1000000007 : Int) ≠ 0 by decide)
        have m1 := Int.emod_lt_of_pos c (show (0 : Int) < 1000000007 by decide)
        refine ⟨_, rfl, _, rfl, _, _, rfl, rfl, (by show (0 : Int) < 1000000007; decide), _, _, rfl, rfl, .inr ⟨by decide, by decide⟩, _, rfl, _, _, rfl, rfl, .inl ⟨by decide, by decide⟩, _, _, rfl, rfl, _, _, rfl, rfl, (by show 2 ≤ sizeLine; decide), fun p hp => ?_⟩
        exact q p g _ hp g0 (by omega) (by omega)
      refine ⟨_, rfl, _, rfl, _, _, rfl, rfl, ⟨by decide, by decide, by decide⟩, _, _, rfl, rfl, _, rfl, ite2 (fun e => ?_) (fun e => ?_)⟩
      · refine ⟨_, rfl, _, rfl, fin2 _ ?_⟩
        split <;> omega
      · exact fin2 g g0
    refine ⟨_, rfl, _, rfl, _, _, rfl, .inl hS, _, _, rfl, rfl, _, rfl, ite2 (fun e => ?_) (fun e => ?_)⟩
    · have lt : k < ((ns.map V.int).length : Int) := of_decide_eq_true e
      obtain ⟨j, rfl⟩ := Int.eq_ofNat_of_zero_le k0
      have hj : j < ns.length := by
        rw [List.length_map] at lt
        omega
      have g : (ns.map V.int)[j]? = some (.int ns[j]) := by
        rw [List.getElem?_map, List.getElem?_eq_getElem hj]
        rfl
      refine ⟨_, rfl, _, rfl, _, _, _, _, rfl, rfl, hS, atI_nat g, ?_⟩
      exact fin _ 0 (Int.le_refl _)
    · exact fin 0 0 (Int.le_refl _)
def spDraw : Sp := fun vs H Q _ => ∃ (b : Addr) (m : Int), vs = [.ref b, .int m] ∧ BagAt H b ∧ 0 < m ∧ m < 1000000 ∧
  ∀ (d : Int) (H' : Hp), 0 ≤ d → d < m → Bx b H H' → Q (.int d) H'
theorem ok_draw {A : Ad} (T : Txt w K mg base A) : FnOk P w K mg base CX0 1 A.a_draw A.d_draw P_draw spDraw := by
  refine T.F_draw.ok sc_draw (fun vs H Q E h => ?_) (fun cdv Ar outer s H vs Q E hr h => ?_)
  · obtain ⟨b, m, rfl, _⟩ := h
    rfl
  · obtain ⟨b, m, rfl, ⟨g, s, hb, g0, s0, s1⟩, m0, m1, q⟩ := h
    refine ⟨_, (pss_cons (ps_if (pt_cmpR op_gt (pe_ix (r := rIxL K) ix_list (pv 0) pe_int (fun _ _ => rfl)) pe_int (nomark _))
      (pss_cons (ps_set (i := 2) sc_draw.nd rfl (Or.inl rfl) (pe_op op_mod (pe_ix (r := rIxL K) ix_list (pv 0) pe_int (fun _ _ => rfl)) (pv 1)))
      (pss_cons (ps_asg (pe_op op_fdiv (pe_ix (r := rIxL K) ix_list (pv 0) pe_int (fun _ _ => rfl)) (pv 1)) (pg_sub (pv 0) pe_int set_list))
      (pss_one (ps_ret (pv 2))))) pss_nil)
      (pss_cons (ps_asg (pe_op op_mod (pe_op op_add (pe_op op_mul (pe_ix (r := rIxL K) ix_list (pv 0) pe_int (fun _ _ => rfl)) pe_int) pe_int) pe_int) (pg_sub (pv 0) pe_int set_list))
      (pss_one (ps_ret (pe_op op_mod (pe_op op_mod (pe_op op_pow (pe_op op_fdiv (pe_ix (r := rIxL K) ix_list (pv 0) pe_int (fun _ _ => rfl)) pe_int) pe_int) pe_int) (pv 1)))))), ?_⟩
    refine ⟨_, rfl, _, _, _, _, rfl, rfl, SqL.of hb, atI_nat (j := 0) rfl, _, _, rfl, rfl, _, rfl, ite2 (fun e => ?_) (fun e => ?_)⟩
    · refine ⟨_, rfl, _, _, _, _, rfl, rfl, SqL.of hb, atI_nat (j := 0) rfl, _, rfl, _, _, rfl, rfl, m0, ?_⟩
      refine ⟨_, rfl, _, _, _, _, rfl, rfl, SqL.of hb, atI_nat (j := 0) rfl, _, rfl, _, _, rfl, rfl, ⟨m0, by omega⟩, _, rfl, _, _, _, _, rfl, rfl, hb, Evl.ixN_nat (j := 0) (by show 0 < 2; decide), ?_⟩
      refine ⟨_, rfl, ?_⟩
      exact q _ _ (Int.emod_nonneg _ (by omega)) (Int.emod_lt_of_pos _ m0) (Bx.drawn (Int.ediv_nonneg g0 (by omega)) s0 s1)
    · have t0 := Int.emod_nonneg (s * 69621 + 1234567) (show (2147483647 : Int) ≠ 0 by decide)
      have t1 := Int.emod_lt_of_pos (s * 69621 + 1234567) (show (0 : Int) < 2147483647 by decide)
      refine ⟨_, rfl, _, _, _, _, rfl, rfl, SqL.of hb, atI_nat (j := 1) rfl, _, _, rfl, rfl, .inr ⟨by decide, by decide⟩, _, _, rfl, rfl, _, _, rfl, rfl, (by show (0 : Int) < 2147483647; decide), _, rfl, _, _, _, _, rfl, rfl, hb, Evl.ixN_nat (j := 1) (by show 1 < 2; decide), ?_⟩
      refine ⟨_, rfl, _, _, _, _, rfl, rfl, SqL.of upd_same, atI_nat (j := 1) rfl, _, _, rfl, rfl, ⟨by decide, by decide⟩, _, _, rfl, rfl, ⟨by decide, by decide, ?_⟩, _, _, rfl, rfl, (by show (0 : Int) < 998244353; decide), _, rfl, _, _, rfl, rfl, m0, ?_⟩
      · omega
      · exact q _ _ (Int.emod_nonneg _ (by omega)) (Int.emod_lt_of_pos _ m0) (Bx.drawn g0 t0 (by omega))

/-! ### a row is drawn -/
def RM (b : Addr) (m : Nat) (up : List Nat) (way : Int) (H : Hp) : L2.St → Hp → Prop := fun σ H' => ∃ (p : Addr) (l : List Nat) (y5 y6 y7 y8 y9 : Option V), σ = [some (.ref b), some (.int (m : Int)), some (.str (sOf up)), some (.int way), some (.ref p), y5, y6, y7, y8, y9] ∧ H' p = some (.lst (cells l)) ∧ H p = none ∧ l.length = m ∧ Row l ∧ Bx b H H'
def spRow : Sp := fun vs H Q _ => ∃ (b : Addr) (m : Nat) (up : List Nat) (x : Int), vs = [.ref b, .int x, .str (sOf up)] ∧ x = m ∧ BagAt H b ∧ 1 ≤ m ∧ m ≤ 1000 ∧ up.length = m ∧ Row up ∧ ∀ l H', l.length = m → Row l → Bx b H H' → Q (.str (sOf l)) H'
theorem ok_row {A : Ad} (T : Txt w K mg base A) : FnOk P w K mg base CX0 2 A.a_row A.d_row P_row spRow := by
  have G_draw := ok_draw (P := P) (w := w) (base := base) T
  refine T.F_row.ok sc_row (fun vs H Q E h => ?_) (fun cdv Ar outer s H vs Q E hr h => ?_)
  · obtain ⟨b, m, up, x, rfl, _⟩ := h
    rfl
  · obtain ⟨b, m, up, _, rfl, rfl, hb, m0, m1, lu, ru, q⟩ := h
    refine ⟨_, (pss_cons (ps_set (i := 3) sc_row.nd rfl (Or.inl rfl) (pe_call G_draw (hr.mono (by decide)) (by rfl) T.g_draw T.F_draw.kp T.b_draw .nil pass0 (pa_cons (pv 0) (pa_cons pe_int pa_nil))))
      (pss_cons (ps_set (i := 4) sc_row.nd rfl (Or.inl rfl) (pe_op op_rep (pe_lst (pa_cons (pe_ix ix_str pe_str (pe_call G_draw (hr.mono (by decide)) (by rfl) T.g_draw T.F_draw.kp T.b_draw .nil pass0 (pa_cons (pv 0) (pa_cons pe_int pa_nil))) (fun _ _ => rfl)) pa_nil)) (pv 1)))
      (Evl.pss_cut (ps_if (pt_cmpR op_eq (pv 3) pe_int (nomark _))
      (pss_one (ps_setLc (i := 4) (own := [("_law_place", 8)]) (g := gName 8) (tt := tYes) (by rfl) sc_row.nd rfl rfl (sw_true rfl rfl rfl (by decide +kernel)) (pi_range1 (by rfl) T.z_range (pa_cons (pv 1) pa_nil)) (blkOk_by (own := [("_law_place", 8)]) (N := N_row) (sc := defScope s_row) (by decide +kernel)) (fun _ _ _ _ _ => pg_name (i := 8) sc_row.nd rfl (Or.inl rfl)) (fun _ _ _ _ _ => pts_nil) (fun s5 H5 C5 cl5 fp5 => (pe_ix ix_str pe_str (pe_call G_draw (hr.mono (by decide)) (by rfl) T.g_draw T.F_draw.kp T.b_draw .nil pass0 (pa_cons (pv 0) (pa_cons pe_int pa_nil))) (fun _ _ => rfl))))) pss_nil)
      (Evl.pss_cut (ps_if (pt_cmpR op_eq (pv 3) pe_int (nomark _))
      (pss_cons (ps_set (i := 5) sc_row.nd rfl (Or.inl rfl) (pe_op op_add pe_int (pe_call G_draw (hr.mono (by decide)) (by rfl) T.g_draw T.F_draw.kp T.b_draw .nil pass0 (pa_cons (pv 0) (pa_cons (pv 1) pa_nil)))))
      (pss_cons (ps_set (i := 6) sc_row.nd rfl (Or.inl rfl) (pe_call G_draw (hr.mono (by decide)) (by rfl) T.g_draw T.F_draw.kp T.b_draw .nil pass0 (pa_cons (pv 0) (pa_cons pe_int pa_nil))))
      (pss_cons (ps_set (i := 7) sc_row.nd rfl (Or.inl rfl) pe_int)
      (pss_one (ps_for PassesOwn.never rfl (pi_range1 (by rfl) T.z_range (pa_cons (pv 1) pa_nil)) (pg_name (i := 8) sc_row.nd rfl (Or.inl rfl))
      (Evl.pss_cut (ps_if (pt_cmpR op_eq (pv 7) pe_int (nomark _))
      (pss_cons (ps_set (i := 6) sc_row.nd rfl (Or.inl rfl) (pe_op op_sub pe_int (pv 6)))
      (pss_one (ps_set (i := 7) sc_row.nd rfl (Or.inl rfl) (pe_op op_add pe_int (pe_call G_draw (hr.mono (by decide)) (by rfl) T.g_draw T.F_draw.kp T.b_draw .nil pass0 (pa_cons (pv 0) (pa_cons (pv 5) pa_nil))))))) pss_nil)
      (pss_cons (ps_asg (pe_ix ix_str pe_str (pv 6) (fun _ _ => rfl)) (pg_sub (pv 4) (pv 8) set_list))
      (pss_one (ps_set (i := 7) sc_row.nd rfl (Or.inl rfl) (pe_op op_sub (pv 7) pe_int)))))))))) pss_nil)
      (Evl.pss_cut (ps_if (pt_cmpR op_eq (pv 3) pe_int (nomark _))
      (pss_cons (ps_set (i := 4) sc_row.nd rfl (Or.inl rfl) (pe_callTy (call_list_str rfl) (by rfl) T.z_list (by decide +kernel) (pa_cons (pv 2) pa_nil)))
      (pss_one (ps_for PassesOwn.never rfl (pi_range1 (by rfl) T.z_range (pa_cons pe_int pa_nil)) (pg_name (i := 9) sc_row.nd rfl (Or.inl rfl))
      (pss_one (ps_asg (pe_ix ix_str pe_str (pe_call G_draw (hr.mono (by decide)) (by rfl) T.g_draw T.F_draw.kp T.b_draw .nil pass0 (pa_cons (pv 0) (pa_cons pe_int pa_nil))) (fun _ _ => rfl)) (pg_sub (pv 4) (pe_call G_draw (hr.mono (by decide)) (by rfl) T.g_draw T.F_draw.kp T.b_draw .nil pass0 (pa_cons (pv 0) (pa_cons (pv 1) pa_nil))) set_list)))))) pss_nil)
      (pss_one (ps_ret (pe_join pe_str (pv 4))))))))), ?_⟩
    -- way, row_here
    refine ⟨_, rfl, b, 4, rfl, hb, by decide, by decide, fun way H1 w0 w1 bx1 => ?_⟩
    refine ⟨_, rfl, b, 2, rfl, bx1.1, by decide, by decide, fun d H2 d0 d1 bx2 => ⟨_, _, _, rfl, rfl, two_len, cell_at d0 d1, (by show 1 ≤ sizeLine; decide), fun p1 hp1 => ⟨_, rfl, _, _, _, rfl, rfl, upd_same, by omega, by omega, ?_, fun p hp => ?_⟩⟩⟩
    · show 1 * (m : Int).toNat ≤ sizeLine
      exact sz (by omega)
    have bx3 : Bx b H (upd H2 p1 (.lst [.str ⟨#[cellN d]⟩])) := (bx1.trans bx2).same (same_new hp1)
    have R0 : RM b m up way H [some (.ref b), some (.int (m : Int)), some (.str (sOf up)), some (.int way), some (.ref p), none, none, none, none, none] (upd (upd H2 p1 (.lst [.str ⟨#[cellN d]⟩])) p (.lst (List.replicate (m : Int).toNat [V.str ⟨#[cellN d]⟩]).flatten)) := by
      refine ⟨p, List.replicate m (cellN d), none, none, none, none, none, rfl, ?_, bx3.free hp, List.length_replicate, Row.rep (cellN_cell d), bx3.same (same_new hp)⟩
      rw [upd_same]
      exact congrArg (fun z => some (HO.lst z)) (rep_one m (cellN d))
    refine ⟨RM b m up way H, ?_, ?_⟩
    · -- way 0
      refine ⟨_, rfl, rfl, _, rfl, ite2 (fun e => ?_) (fun e => R0)⟩
      obtain ⟨_, _, _, _, _, _, _, _, _, _, _, _, bx4⟩ := R0
      refine ⟨_, rfl, _, rfl, by omega, by omega, fun D hD => lc_range (lo := 0) (n := m) (fun i H' => ∃ l, H' D = some (.lst (cells l)) ∧ l.length = i ∧ Row l ∧ Bx b H H') ⟨[], upd_same, rfl, Row.nil, bx4.same (same_new hD)⟩ ?_ ?_⟩
      · rintro i H' hi ⟨l, hl, ll, rl, bx5⟩
        have nD : D ≠ b := BagAt.ne bx4.1 hD
        have fD : H D = none := bx4.free hD
        refine ⟨rfl, _, rfl, b, 2, rfl, bx5.1, by decide, by decide, fun d2 H5 e0 e1 bx6 => ⟨_, _, _, rfl, rfl, two_len, cell_at e0 e1, _, bx6.2 _ _ nD hl, ?_, l ++ [cellN d2], ?_, ?_, rl.app (cellN_cell d2), (bx5.trans bx6).mut fD nD⟩⟩
        · rw [cells_len]
          exact szl (by omega)
        · rw [upd_same]
          exact congrArg (fun z => some (HO.lst z)) (cells_app l (cellN d2))
        · rw [List.length_append, ll]
          rfl
      · rintro H' ⟨l, hl, ll, rl, bx5⟩
        exact ⟨D, l, _, _, _, _, _, rfl, hl, bx4.free hD, ll, rl, bx5⟩
    · rintro σ H3 ⟨p, l, y5, y6, y7, y8, y9, rfl, hp, fp, ll, rl, bx⟩
      refine ⟨RM b m up way H, ?_, ?_⟩
      · -- way 1
        refine ⟨_, rfl, rfl, _, rfl, ite2 (fun e => ?_) (fun e => ⟨p, l, y5, y6, y7, y8, y9, rfl, hp, fp, ll, rl, bx⟩)⟩
        have nP : p ≠ b := BagAt.ne hb fp
        refine ⟨_, rfl, _, rfl, b, _, rfl, bx.1, by omega, by omega, fun most H4 o0 o1 bx4 => ⟨_, _, rfl, rfl, ?_⟩⟩
        refine ⟨_, rfl, b, 2, rfl, bx4.1, by decide, by decide, fun col H5 c0 c1 bx5 => ?_⟩
        refine ⟨_, rfl, _, rfl, by omega, by omega, for_range (lo := 0) (n := m) (fun i σ H' => ∃ (l : List Nat) (c left : Int) (y8 : Option V), σ = [some (.ref b), some (.int (m : Int)), some (.str (sOf up)), some (.int way), some (.ref p), some (.int (1 + most)), some (.int c), some (.int left), y8, y9] ∧ 0 ≤ c ∧ c < 2 ∧ H' p = some (.lst (cells l)) ∧ l.length = m ∧ Row l ∧ Bx b H H')
          ⟨l, col, 0, y8, rfl, c0, c1, bx5.2 _ _ nP (bx4.2 _ _ nP hp), ll, rl, (bx.trans bx4).trans bx5⟩ ?_ ?_⟩
        · rintro i σ H' hi ⟨l, c, left, y8, rfl, c0, c1, hp, ll, rl, bx⟩
          refine ⟨fun σ H' => ∃ (c left : Int) (y8 : Option V), σ = [some (.ref b), some (.int (m : Int)), some (.str (sOf up)), some (.int way), some (.ref p), some (.int (1 + most)), some (.int c), some (.int left), some (.int (0 + (i : Int))), y9] ∧ 0 ≤ c ∧ c < 2 ∧ H' p = some (.lst (cells l)) ∧ Bx b H H', ?_, ?_⟩
          · refine ⟨_, rfl, rfl, _, rfl, ite2 (fun e => ?_) (fun e => ⟨c, left, y8, rfl, c0, c1, hp, bx⟩)⟩
            refine ⟨_, rfl, _, _, rfl, rfl, ?_⟩
            refine ⟨_, rfl, _, rfl, b, _, rfl, bx.1, by omega, by omega, fun d H6 e0 e1 bx6 => ⟨_, _, rfl, rfl, ?_⟩⟩
            exact ⟨1 - c, 1 + d, y8, rfl, by omega, by omega, bx6.2 _ _ nP hp, bx.trans bx6⟩
          · rintro σ H' ⟨c, left, _, rfl, c0, c1, hp, bx⟩
            refine ⟨_, rfl, _, _, _, rfl, rfl, two_len, cell_at c0 c1, _, rfl, _, rfl, _, _, _, _, rfl, rfl, hp, (by rw [Int.zero_add]; exact Evl.ixN_nat (by rw [cells_len]; omega)), ?_⟩
            refine ⟨_, rfl, _, _, rfl, rfl, ?_⟩
            refine ⟨l.set i (cellN c), c, left - 1, some (.int (0 + (i : Int))), rfl, c0, c1, ?_, ?_, rl.set (cellN_cell c), bx.mut fp nP⟩
            · rw [upd_same]
              exact congrArg (fun z => some (HO.lst z)) (cells_set l i (cellN c))
            · rw [List.length_set]
              exact ll
        · rintro σ H' ⟨l, c, left, y8, rfl, c0, c1, hp, ll, rl, bx⟩
          exact ⟨p, l, _, _, _, _, _, rfl, hp, fp, ll, rl, bx⟩
      · rintro σ H3 ⟨p, l, y5, y6, y7, y8, y9, rfl, hp, fp, ll, rl, bx⟩
        refine ⟨RM b m up way H, ?_, ?_⟩
        · -- way 2
          refine ⟨_, rfl, rfl, _, rfl, ite2 (fun e => ?_) (fun e => ⟨p, l, y5, y6, y7, y8, y9, rfl, hp, fp, ll, rl, bx⟩)⟩
          refine ⟨_, rfl, up, rfl, by omega, fun p2 hp2 => ?_⟩
          have f2 : H p2 = none := bx.free hp2
          have n2 : p2 ≠ b := BagAt.ne bx.1 hp2
          refine ⟨_, rfl, by decide, by decide, for_range (lo := 0) (n := 3) (fun i σ H' => ∃ (l : List Nat) (y9 : Option V), σ = [some (.ref b), some (.int (m : Int)), some (.str (sOf up)), some (.int way), some (.ref p2), y5, y6, y7, y8, y9] ∧ H' p2 = some (.lst (cells l)) ∧ l.length = m ∧ Row l ∧ Bx b H H')
            ⟨up, y9, rfl, upd_same, lu, ru, bx.same (same_new hp2)⟩ ?_ ?_⟩
          · rintro i σ H' hi ⟨l, y9, rfl, hp, ll, rl, bx⟩
            refine ⟨_, rfl, b, 2, rfl, bx.1, by decide, by decide, fun d H5 d0 d1 bx5 => ⟨_, _, _, rfl, rfl, two_len, cell_at d0 d1, _, rfl, _, rfl, _, rfl, b, _, rfl, bx5.1, by omega, by omega, fun j H6 j0 j1 bx6 => ?_⟩⟩
            obtain ⟨k, rfl⟩ := Int.eq_ofNat_of_zero_le j0
            refine ⟨_, _, _, k, rfl, rfl, bx6.2 _ _ n2 (bx5.2 _ _ n2 hp), Evl.ixN_nat (by rw [cells_len]; omega), ?_⟩
            refine ⟨l.set k (cellN d), _, rfl, ?_, ?_, rl.set (cellN_cell d), ((bx.trans bx5).trans bx6).mut f2 n2⟩
            · rw [upd_same]
              exact congrArg (fun z => some (HO.lst z)) (cells_set l k (cellN d))
            · rw [List.length_set]
              exact ll
          · rintro σ H' ⟨l, y9, rfl, hp, ll, rl, bx⟩
            exact ⟨p2, l, _, _, _, _, _, rfl, hp, f2, ll, rl, bx⟩
        · rintro σ H3 ⟨p, l, y5, y6, y7, y8, y9, rfl, hp, fp, ll, rl, bx⟩
          refine ⟨⟨_, rfl⟩, _, rfl, _, _, l.map fun c => sOf [c], rfl, rfl, .inl (SqL.of (by rw [← cells_strs]; exact hp)), join_size (by omega), ?_⟩
          rw [join_cells]
          exact q l H3 ll rl bx

/-! ### a page is drawn -/
def Good (n : Nat) (rows : List (List Nat)) : Prop := ∀ r ∈ rows, r.length = n ∧ Row r
theorem Good.app {n : Nat} {rows : List (List Nat)} {l : List Nat} (h : Good n rows) (ll : l.length = n) (rl : Row l) : Good n (rows ++ [l]) := fun r hr => by
  rcases List.mem_append.mp hr with e | e
  · exact h r e
  · rw [List.mem_singleton.mp e]
    exact ⟨ll, rl⟩
def spPage : Sp := fun vs H Q _ => ∃ (b : Addr) (mc mr : Nat), vs = [.ref b, .int mc, .int mr] ∧ BagAt H b ∧ 8 ≤ mc ∧ mc ≤ 64 ∧ 1 ≤ mr ∧ mr ≤ 24 ∧
  ∀ (p : Addr) (rows : List (List Nat)) (n : Nat) (H' : Hp), 8 ≤ n → n ≤ mc → 1 ≤ rows.length → rows.length ≤ mr → Good n rows → H p = none → H' p = some (.tup (rows.map sV)) → Bx b H H' → Q (.ref p) H'
theorem last_of {α : Type} {xs : List α} {n : Nat} (h : xs.length = n + 1) : ∃ ys y, xs = ys ++ [y] := by
  have h0 : xs ≠ [] := fun e => by
    rw [e] at h
    cases h
  exact ⟨xs.dropLast, xs.getLast h0, (List.dropLast_concat_getLast h0).symm⟩
theorem ok_page {A : Ad} (T : Txt w K mg base A) : FnOk P w K mg base CX0 3 A.a_page A.d_page P_page spPage := by
  have G_draw := ok_draw (P := P) (w := w) (base := base) T
  have G_row := ok_row (P := P) (w := w) (base := base) T
  refine T.F_page.ok sc_page (fun vs H Q E h => ?_) (fun cdv Ar outer s H vs Q E hr h => ?_)
  · obtain ⟨b, mc, mr, rfl, _⟩ := h
    rfl
  · obtain ⟨b, mc, mr, rfl, hb, c0, c1, r0, r1, q⟩ := h
    refine ⟨_, (pss_cons (ps_set (i := 3) sc_page.nd rfl (Or.inl rfl) (pe_op op_add pe_int (pe_call G_draw (hr.mono (by decide)) (by rfl) T.g_draw T.F_draw.kp T.b_draw .nil pass0 (pa_cons (pv 0) (pa_cons (pe_op op_sub (pv 1) pe_int) pa_nil)))))
      (pss_cons (ps_set (i := 4) sc_page.nd rfl (Or.inl rfl) (pe_op op_add pe_int (pe_call G_draw (hr.mono (by decide)) (by rfl) T.g_draw T.F_draw.kp T.b_draw .nil pass0 (pa_cons (pv 0) (pa_cons (pv 2) pa_nil)))))
      (Evl.pss_cut (ps_if (pt_cmpR op_eq (pe_call G_draw (hr.mono (by decide)) (by rfl) T.g_draw T.F_draw.kp T.b_draw .nil pass0 (pa_cons (pv 0) (pa_cons pe_int pa_nil))) pe_int (nomark _))
      (pss_one (ps_par (i := 3) (j := 4) (by rfl) sc_page.nd rfl rfl (by decide) rfl rfl (pa_cons (pv 1) (pa_cons (pv 2) pa_nil)) (by rfl))) pss_nil)
      (pss_cons (ps_set (i := 5) sc_page.nd rfl (Or.inl rfl) (pe_lst (pa_cons (pe_op op_mul_str pe_str (pv 3)) pa_nil)))
      (Evl.pss_cut (ps_for PassesOwn.never rfl (pi_range1 (by rfl) T.z_range (pa_cons (pv 4) pa_nil)) (pg_name (i := 6) sc_page.nd rfl (Or.inl rfl))
      (pss_one (ps_expr (pe_bm PySem.F.plainAttrs_list PySem.F.slot_list_append PySem.F.type_list_append mt_append (pv 5) (pa_cons (pe_call G_row (hr.mono (by decide)) (by rfl) T.g_row T.F_row.kp T.b_row .nil pass0 (pa_cons (pv 0) (pa_cons (pv 3) (pa_cons (pe_ix (r := rIxL K) ix_list (pv 5) (pe_un un_neg pe_int) (fun _ _ => rfl)) pa_nil)))) pa_nil)))))
      (pss_one (ps_ret (pe_callTy call_tuple_of (by rfl) T.z_tuple (by decide +kernel) (pa_cons (pe_slice sl_list (pv 5) (po_some pe_int) po_none) pa_nil))))))))), ?_⟩
    refine ⟨_, rfl, _, rfl, _, _, rfl, rfl, b, _, rfl, hb, by omega, by omega, fun d1 H1 a0 a1 bx1 => ⟨_, _, rfl, rfl, ?_⟩⟩
    refine ⟨_, rfl, _, rfl, b, _, rfl, bx1.1, by omega, by omega, fun d2 H2 e0 e1 bx2 => ⟨_, _, rfl, rfl, ?_⟩⟩
    refine ⟨fun σ H' => ∃ (n many : Nat), σ = [some (.ref b), some (.int mc), some (.int mr), some (.int n), some (.int many), none, none] ∧ 8 ≤ n ∧ n ≤ mc ∧ 1 ≤ many ∧ many ≤ mr ∧ Bx b H H', ?_, ?_⟩
    · refine ⟨_, rfl, b, 8, rfl, bx2.1, by decide, by decide, fun d3 H3 f0 f1 bx3 => ⟨rfl, _, rfl, ite2 (fun e => ?_) (fun e => ?_)⟩⟩
      · exact ⟨_, rfl, _, rfl, _, _, rfl, mc, mr, rfl, c0, Nat.le_refl _, r0, Nat.le_refl _, (bx1.trans bx2).trans bx3⟩
      · obtain ⟨n, en⟩ := Int.eq_ofNat_of_zero_le (show 0 ≤ 8 + d1 by omega)
        obtain ⟨m, em⟩ := Int.eq_ofNat_of_zero_le (show 0 ≤ 1 + d2 by omega)
        exact ⟨n, m, by rw [← en, ← em]; rfl, by omega, by omega, by omega, by omega, (bx1.trans bx2).trans bx3⟩
    · rintro σ H4 ⟨n, many, rfl, n0, n1, m0, m1, bx4⟩
      refine ⟨_, rfl, 46, _, rfl, rfl, ⟨by omega, by omega⟩, (by show 1 ≤ sizeLine; decide), fun p hp => ?_⟩
      have fp : H p = none := bx4.free hp
      have np : p ≠ b := BagAt.ne bx4.1 hp
      refine ⟨fun σ H' => ∃ (rows : List (List Nat)) (y6 : Option V), σ = [some (.ref b), some (.int mc), some (.int mr), some (.int n), some (.int many), some (.ref p), y6] ∧ H' p = some (.lst (rows.map sV)) ∧ rows.length = many + 1 ∧ Good n rows ∧ Bx b H H', ?_, ?_⟩
      · refine ⟨_, rfl, _, rfl, by omega, by omega, for_range (lo := 0) (n := many) (fun i σ H' => ∃ (rows : List (List Nat)) (y6 : Option V), σ = [some (.ref b), some (.int mc), some (.int mr), some (.int n), some (.int many), some (.ref p), y6] ∧ H' p = some (.lst (rows.map sV)) ∧ rows.length = i + 1 ∧ Good n rows ∧ Bx b H H')
          ⟨[List.replicate n 46], none, rfl, upd_same, rfl, fun r hr => by rw [List.mem_singleton.mp hr]; exact ⟨List.length_replicate, Row.rep (.inl rfl)⟩, bx4.same (same_new hp)⟩ ?_ (fun σ H' h => h)⟩
        rintro i σ H5 hi ⟨rows, y6, rfl, h5, lr, gr, bx5⟩
        obtain ⟨ys, y, rfl⟩ := last_of lr
        have gy := gr y (List.mem_append.mpr (.inr (List.mem_singleton.mpr rfl)))
        refine ⟨_, rfl, .inl ⟨rfl, _, SqL.of h5⟩, _, rfl, _, rfl, _, rfl, 1, rfl, _, _, _, sV y, rfl, rfl, SqL.of h5, ?_, b, n, y, _, rfl, rfl, bx5.1, by omega, by omega, gy.1, gy.2, fun l H6 ll rl bx6 => ?_⟩
        · rw [List.map_append]
          exact atI_last _ _
        · refine ⟨_, _, _, rfl, rfl, bx6.2 _ _ np h5, ?_, ys ++ [y] ++ [l], _, rfl, ?_, ?_, gr.app ll rl, (bx5.trans bx6).mut fp np⟩
          · rw [List.length_map, lr]
            exact szl (by omega)
          · rw [upd_same, List.map_append (l₂ := [l])]
            rfl
          · rw [List.length_append, lr]
            rfl
      · rintro σ H5 ⟨rows, y6, rfl, h5, lr, gr, bx5⟩
        refine ⟨_, rfl, 1, rfl, _, _, rfl, SqL.of h5, fun c hc => ⟨_, _, rfl, .inl ⟨SqL.of upd_same, fun t ht => ?_⟩⟩⟩
        have s6 : Same H5 (upd H5 c (.lst (cutV (rows.map sV) (some 1) none))) := same_new hc
        have bx6 := (bx5.same s6).same (same_new (o := .tup (cutV (rows.map sV) (some 1) none)) ht)
        refine q t (rows.drop 1) n _ n0 n1 ?_ ?_ (fun r hr => gr r (List.mem_of_mem_drop hr)) ((bx5.same s6).free ht) ?_ bx6
        · rw [List.length_drop]
          omega
        · rw [List.length_drop]
          omega
        · rw [upd_same, cut1, List.map_drop]

def iV (k : Nat) : V := .int (k : Int)
def spFirst : Sp := fun vs H Q _ => ∃ (l : List Nat) (c s : Nat) (x : Int), vs = [.str (sOf l), .str (sOf [c]), .int x] ∧ x = s ∧ l.length ≤ 100000 ∧ Q (.int (fp l c s : Int)) H
theorem ok_first_place {A : Ad} (T : Txt w K mg base A) : FnOk P w K mg base CX0 1 A.a_first_place A.d_first_place P_first_place spFirst := by
  refine T.F_first_place.ok sc_first_place (fun vs H Q E h => ?_) (fun cdv Ar outer s H vs Q E hr h => ?_)
  · obtain ⟨l, c, s, x, rfl, _⟩ := h
    rfl
  · obtain ⟨l, c, st, _, rfl, rfl, ll, q⟩ := h
    refine ⟨_, (pss_cons (ps_set (i := 3) sc_first_place.nd rfl (Or.inl rfl) (pe_bm PySem.F.plainAttrs_str PySem.F.slot_str_find PySem.F.type_str_find mt_find3 (pv 0) (pa_cons (pv 1) (pa_cons (pv 2) pa_nil))))
      (pss_one (ps_ret (pe_ifExp (pt_cmpR op_lt (pv 3) pe_int (nomark _)) (pe_callB call_len_str (by rfl) T.z_len PySem.boot_len (pa_cons (pv 0) pa_nil)) (pv 3))))), ?_⟩
    have hl : (sOf l).length ≤ sizeLine := by
      rw [sOf_len]
      exact sz ll
    refine ⟨_, rfl, rfl, _, rfl, _, rfl, _, _, _, rfl, rfl, ?_⟩
    refine ⟨_, rfl, _, _, rfl, rfl, _, rfl, ite2 (fun e => ?_) (fun e => ?_)⟩
    · have e := of_decide_eq_true e
      refine ⟨_, rfl, _, rfl, hl, ?_⟩
      rw [sOf_len]
      rcases find3_fp l c st with ⟨_, h⟩ | h
      · rw [← h]
        exact q
      · rw [h] at e
        omega
    · have e : ¬ (Txt.find3 (sOf l) (sOf [c]) (st : Int) < 0) := fun z => e (decide_eq_true z)
      refine ⟨_, rfl, ?_⟩
      rcases find3_fp l c st with ⟨h, _⟩ | h
      · exact absurd h e
      · rw [h]
        exact q
def spOther : Sp := fun vs H Q _ => ∃ (c : Nat), vs = [.str (sOf [c])] ∧ Q (.str (sOf [oth c])) H
theorem ok_other_cell {A : Ad} (T : Txt w K mg base A) : FnOk P w K mg base CX0 1 A.a_other_cell A.d_other_cell P_other_cell spOther := by
  refine T.F_other_cell.ok sc_other_cell (fun vs H Q E h => ?_) (fun cdv Ar outer s H vs Q E hr h => ?_)
  · obtain ⟨c, rfl, _⟩ := h
    rfl
  · obtain ⟨c, rfl, q⟩ := h
    refine ⟨_, (pss_one (ps_ret (pe_ifExp (pt_cmpR op_eq (pv 0) (pe_glob (v := .str (Str.ofString ".")) (by rfl) T.c_LIGHT ⟨_, rfl⟩) (nomark _)) (pe_glob (v := .str (Str.ofString "#")) (by rfl) T.c_DARK ⟨_, rfl⟩) (pe_glob (v := .str (Str.ofString ".")) (by rfl) T.c_LIGHT ⟨_, rfl⟩)))), ?_⟩
    unfold oth at q
    have key : decide (V.str (sOf [c]) = V.str (Str.ofString ".")) = decide (c = 46) := decide_eq_decide.mpr ⟨fun h => by
      have h2 : sOf [c] = sOf [46] := V.str.inj h
      have := sOf_inj h2
      simp_all, fun h => by rw [h]; rfl⟩
    refine ⟨_, rfl, rfl, _, rfl, ite2 (fun e => ?_) (fun e => ?_)⟩
    · rw [key] at e
      rw [if_pos (of_decide_eq_true e)] at q
      exact q
    · rw [key] at e
      rw [if_neg (fun z => e (decide_eq_true z))] at q
      exact q

def RunsW (l : List Nat) (p : Addr) (H : Hp) (m : Nat) (σ : L2.St) (H' : Hp) : Prop := ∃ (pl c : Nat) (rs : List Nat) (y4 : Option V), σ = [some (.str (sOf l)), some (.ref p), some (.str (sOf [c])), some (.int (pl : Int)), y4] ∧ m = 2 * (l.length - pl) + (if c = 46 then 1 else 0) ∧ Cell c ∧ pl ≤ l.length ∧ Same H H' ∧ H' p = some (.lst (rs.map iV)) ∧ rs ++ (if pl = l.length then [] else runsFrom (l.drop pl) c 0) = runsL l ∧ ((c = 46 ∧ pl = 0) ∨ (pl < l.length → l[pl]? = some c))
def spRuns : Sp := fun vs H Q _ => ∃ (l : List Nat), vs = [.str (sOf l)] ∧ Row l ∧ 0 < l.length ∧ l.length ≤ 1000 ∧ ∀ p H', H p = none → Same H H' → H' p = some (.lst ((runsL l).map iV)) → Q (.ref p) H'
theorem ok_runs_of {A : Ad} (T : Txt w K mg base A) : FnOk P w K mg base CX0 2 A.a_runs_of A.d_runs_of P_runs_of spRuns := by
  have G_first_place := ok_first_place (P := P) (w := w) (base := base) T
  have G_other_cell := ok_other_cell (P := P) (w := w) (base := base) T
  refine T.F_runs_of.ok sc_runs_of (fun vs H Q E h => ?_) (fun cdv Ar outer s H vs Q E hr h => ?_)
  · obtain ⟨l, rfl, _⟩ := h
    rfl
  · obtain ⟨l, rfl, rl, l0, l1, q⟩ := h
    refine ⟨_, (pss_cons (ps_set (i := 1) sc_runs_of.nd rfl (Or.inl rfl) (pe_lst pa_nil))
      (pss_cons (ps_set (i := 2) sc_runs_of.nd rfl (Or.inl rfl) (pe_glob (v := .str (Str.ofString ".")) (by rfl) T.c_LIGHT ⟨_, rfl⟩))
      (pss_cons (ps_set (i := 3) sc_runs_of.nd rfl (Or.inl rfl) pe_int)
      (pss_cons (ps_while PassesOwn.never (pt_cmpR op_lt (pv 3) (pe_callB call_len_str (by rfl) T.z_len PySem.boot_len (pa_cons (pv 0) pa_nil)) (nomark _))
      (pss_cons (ps_set (i := 4) sc_runs_of.nd rfl (Or.inl rfl) (pe_call G_first_place (hr.mono (by decide)) (by rfl) T.g_first_place T.F_first_place.kp T.b_first_place .nil pass0 (pa_cons (pv 0) (pa_cons (pe_call G_other_cell (hr.mono (by decide)) (by rfl) T.g_other_cell T.F_other_cell.kp T.b_other_cell .nil pass0 (pa_cons (pv 2) pa_nil)) (pa_cons (pv 3) pa_nil)))))
      (pss_cons (ps_expr (pe_bm PySem.F.plainAttrs_list PySem.F.slot_list_append PySem.F.type_list_append mt_append (pv 1) (pa_cons (pe_op op_sub (pv 4) (pv 3)) pa_nil)))
      (pss_cons (ps_set (i := 3) sc_runs_of.nd rfl (Or.inl rfl) (pv 4))
      (pss_one (ps_set (i := 2) sc_runs_of.nd rfl (Or.inl rfl) (pe_call G_other_cell (hr.mono (by decide)) (by rfl) T.g_other_cell T.F_other_cell.kp T.b_other_cell .nil pass0 (pa_cons (pv 2) pa_nil))))))))
      (pss_one (ps_ret (pv 1))))))), ?_⟩
    have hl : (sOf l).length ≤ sizeLine := by
      rw [sOf_len]
      exact sz (by omega)
    refine ⟨(by show 0 ≤ sizeLine; decide), fun p hp => ?_⟩
    refine ⟨RunsW l p H, ⟨_, 0, 46, [], none, rfl, rfl, .inl rfl, by omega, same_new hp, upd_same, ?_, .inl ⟨rfl, rfl⟩⟩, ?_⟩
    · rw [if_neg (by omega)]
      rfl
    · rintro m σ H1 ⟨pl, c, rs, y4, rfl, rfl, hc, hpl, sm, hp1, hrs, hat⟩
      refine ⟨_, rfl, _, rfl, _, rfl, hl, _, _, rfl, rfl, _, rfl, ?_⟩
      refine ite2 (fun e => ?_) (fun e => ?_)
      · have lt : pl < l.length := by
          have := of_decide_eq_true e
          rw [sOf_len] at this
          omega
        have lrs := runs_len rl
        rw [if_neg (by omega), runs_at hc hpl] at hrs
        have hfp := fp_spec (l := l) (c := oth c) hpl
        have lrs2 : rs.length ≤ l.length := by
          have := congrArg List.length hrs
          rw [List.length_append, List.length_cons] at this
          omega
        have nxt : pl < fp l (oth c) pl ∨ (c = 46 ∧ pl = 0) := by
          rcases hat with h | h
          · exact .inr h
          · left
            by_cases e3 : fp l (oth c) pl = pl
            · have h4 := hfp.2.2.2 (by omega)
              rw [e3, h lt] at h4
              exact absurd (Option.some.inj h4).symm (oth_ne hc)
            · omega
        refine ⟨fun σ' H' => ∃ m', m' < 2 * (l.length - pl) + (if c = 46 then 1 else 0) ∧ RunsW l p H m' σ' H', fun σ' H' h => h, ?_⟩
        refine ⟨_, rfl, _, rfl, c, rfl, _, rfl, l, oth c, pl, _, rfl, rfl, by omega, ?_⟩
        refine ⟨_, rfl, .inl ⟨rfl, _, SqL.of hp1⟩, _, rfl, _, rfl, _, _, rfl, rfl, p, _, _, rfl, rfl, hp1, (by rw [List.length_map]; exact szl (by omega)), ?_⟩
        refine ⟨_, rfl, _, rfl, c, rfl, ?_⟩
        refine ⟨_, ?_, fp l (oth c) pl, oth c, rs ++ [fp l (oth c) pl - pl], _, rfl, rfl, oth_cell c, hfp.2.1, Same.mut sm hp, ?_, ?_, .inr fun h => hfp.2.2.2 h⟩
        · rcases nxt with h | ⟨h, h2⟩
          · have h6 : (if oth c = 46 then 1 else 0) ≤ 1 := by split <;> omega
            have h5 : fp l (oth c) pl ≤ l.length := hfp.2.1
            show 2 * (l.length - fp l (oth c) pl) + (if oth c = 46 then 1 else 0) < _
            omega
          · subst h
            rw [if_pos rfl, show oth 46 = 35 from rfl, if_neg (by decide)]
            have := hfp.1
            show 2 * (l.length - fp l 35 pl) + 0 < _
            have h3 : pl ≤ fp l 35 pl := hfp.1
            omega
        · rw [upd_same, List.map_append]
          have e9 : V.int ((fp l (oth c) pl : Int) - (pl : Int)) = iV (fp l (oth c) pl - pl) := by
            unfold iV
            have := hfp.1
            congr 1
            omega
          show some (HO.lst (rs.map iV ++ [V.int ((fp l (oth c) pl : Int) - (pl : Int))])) = _
          rw [e9]
          rfl
        · rw [List.append_assoc]
          exact hrs
      · have ge : pl = l.length := by
          have : ¬ ((pl : Int) < ((sOf l).length : Int)) := fun z => e (decide_eq_true z)
          rw [sOf_len] at this
          omega
        refine ⟨_, rfl, ?_⟩
        rw [if_pos ge, List.append_nil] at hrs
        rw [hrs] at hp1
        exact q p H1 hp sm hp1

/-! ### words by lengths -/
abbrev TT (p : Addr) : List (Addr × Str) := [(p, (("making_order" : Str) ++ ".<locals>.") ++ "<lambda>")]
theorem extN_of {H H' : Hp} (e : Same H H') : LamX.ExtN H H' := fun b o h _ => e b o h
theorem tabs_same {T : List (Addr × Str)} {H H' : Hp} (h : LamX.Tabs T H) (e : Same H H') : LamX.Tabs T H' := h.ext e
def spOrder (p : Addr) : Sp := fun vs H Q _ => ∃ (a : Addr) (ns : List Int), vs = [.ref a] ∧ LamX.Tabs (TT p) H ∧ H a = some (.lst (ns.map V.int)) ∧ ns.length ≤ 1000 ∧
  ∀ q H', LamX.ExtN H H' → LamX.Tabs (TT p) H' → H' q = none → Q (.ref q) (upd H' q (.lst ((orderOf ns).map fun (i : Nat) => V.int (i : Int))))
theorem ok_making_order {A : Ad} (T : Txt w K mg base A) : FnOk P w K mg base CX0 1 A.a_making_order A.d_making_order P_making_order (spOrder A.p_making_order) := by
  obtain ⟨oc, od, kV, doc, pm, an, ct, osl, lk, hcd⟩ := T.L_making_order
  obtain ⟨oc2, od2, kV2, doc2, pm2, an2, cdv2, ct2, osl2, efd, lk2, hcd2⟩ := T.F_making_order.ex
  have e2 := lk.symm.trans lk2
  have efd2 : PySem.W.fnOf "making_order" "making_order" (defArgs s_making_order) (defBody s_making_order) (defScope s_making_order) .none kV doc pm an (.ref A.k_making_order) ct = A.d_making_order := by
    injection e2 with e2
    injection e2 with _ _ e2 _
    injection e2
  rw [← efd2]
  refine fn_of lk hcd sc_making_order (fun vs H Q E h => ?_) (fun Ar outer s H vs Q E hr h => ?_)
  · obtain ⟨a, ns, rfl, _⟩ := h
    rfl
  · obtain ⟨a, ns, rfl, hT, ha, hl, q⟩ := h
    refine ⟨_, pss_one (ps_ret (pe_sortLam (T := TT A.p_making_order) (iL := 0) (by rfl) T.z_sorted (pa_cons (pe_callTy cr_range1 (by rfl) T.z_range (by decide +kernel) (pa_cons (pe_callB (r := fun xs H Q => ∃ p ys, xs = [.ref p] ∧ (SqL K H p ys ∨ SqT K H p ys) ∧ Q (.int ys.length) H) call_len_seq (by rfl) T.z_len PySem.boot_len (pa_cons (pv 0) pa_nil)) pa_nil)) pa_nil)
      T.TB_making_order rfl (List.mem_singleton.mpr rfl) (fun p hp _ => by rw [List.mem_singleton.mp hp]; rfl) hr rfl rfl rfl rfl rfl rfl rfl (by decide +kernel) rfl (fun _ _ _ _ _ _ => rfl))), ?_⟩
    refine ⟨_, rfl, a, _, rfl, .inl (SqL.of ha), _, rfl, fun r hr2 => ?_⟩
    have s1 : Same H (upd H r (.rng 0 ((ns.map V.int).length : Int))) := same_new hr2
    refine ⟨r, a, ns, rfl, by rw [upd_same, List.length_map], tabs_same hT s1, rfl, s1 _ _ ha, hl, fun p H2 eN T2 fr => ?_⟩
    exact q p H2 (fun b o hb n => eN b o (s1 _ _ hb) n) T2 fr
theorem cutS_to (l : List Nat) (b : Nat) (hb : b ≤ l.length) : cutS (sOf l) none (some (b : Int)) = sOf (l.take b) := by
  unfold cutS
  rw [HT.sIx_nat, sOf_len, sOf_list, Nat.min_eq_left hb, HT.sIx_none]
  show sOf ((l.drop 0).take (b - 0)) = _
  rw [List.drop_zero, Nat.sub_zero]
theorem rfind_one {w : List Nat} {i : Nat} (h : lastOne w = some i) : Txt.rfind (sOf w) (Str.ofString "1") = (i : Int) := by
  have at_iff : ∀ j, StrLaws.At (sOf w) ⟨#[49]⟩ (sOf w).length j ↔ w[j]? = some 49 := fun j => by
    have := StrLaws.subAt_one (sOf w) 49 j
    rw [sOf_list] at this
    exact this
  have hs := lastOne_spec w
  rcases hs with ⟨e, _⟩ | ⟨i2, e, h1, h2⟩
  · rw [e] at h
    cases h
  · rw [e] at h
    cases h
    show (match Builtin.Str.lastOccurrence (sOf w) ⟨#[49]⟩ 0 (sOf w).length with | some i => (i : Int) | none => -1) = (i : Int)
    rcases StrLaws.last_spec (sOf w) ⟨#[49]⟩ with ⟨_, n⟩ | ⟨j, ej, a1, a2⟩
    · exact absurd ((at_iff i).mpr h1) (n i)
    · rw [ej]
      have h3 := (at_iff j).mp a1
      have : i = j := by
        rcases Nat.lt_trichotomy i j with z | z | z
        · exact absurd h3 (h2 j z)
        · exact z
        · exact absurd ((at_iff i).mpr h1) (a2 i z)
      rw [this]
def spLess : Sp := fun vs H Q _ => ∃ (w : List Nat) (i : Nat), vs = [.str (sOf w)] ∧ lastOne w = some i ∧ w.length ≤ 1000 ∧ Q (.str (sOf (lessW w))) H
theorem lastOne_lt {w : List Nat} {i : Nat} (h : lastOne w = some i) : i < w.length := by
  rcases lastOne_spec w with ⟨e, _⟩ | ⟨i2, e, h1, _⟩
  · rw [e] at h
    cases h
  · rw [e] at h
    cases h
    exact (List.getElem?_eq_some_iff.mp h1).1
theorem lessW_len {w : List Nat} {i : Nat} (h : lastOne w = some i) : (lessW w).length = w.length := by
  have := lastOne_lt h
  unfold lessW
  rw [h]
  show (w.take i ++ 48 :: List.replicate (w.length - i - 1) 49).length = w.length
  rw [List.length_append, List.length_cons, List.length_replicate, List.length_take]
  omega
theorem ok_one_less {A : Ad} (T : Txt w K mg base A) : FnOk P w K mg base CX0 1 A.a_one_less A.d_one_less P_one_less spLess := by
  refine T.F_one_less.ok sc_one_less (fun vs H Q E h => ?_) (fun cdv Ar outer s H vs Q E hr h => ?_)
  · obtain ⟨w, i, rfl, _⟩ := h
    rfl
  · obtain ⟨wd, i, rfl, hi, lw, q⟩ := h
    refine ⟨_, (pss_cons (ps_set (i := 1) sc_one_less.nd rfl (Or.inl rfl) (pe_bm PySem.F.plainAttrs_str PySem.F.slot_str_rfind PySem.F.type_str_rfind mt_rfind (pv 0) (pa_cons pe_str pa_nil)))
      (pss_cons (ps_if (pt_cmpR op_lt (pv 1) pe_int (nomark _))
      (pss_one ps_never) pss_nil)
      (pss_one (ps_ret (pe_op op_add_str (pe_op op_add_str (pe_slice sl_str (pv 0) po_none (po_some (pv 1))) pe_str) (pe_op op_mul_str pe_str (pe_op op_sub (pe_op op_sub (pe_callB call_len_str (by rfl) T.z_len PySem.boot_len (pa_cons (pv 0) pa_nil)) (pv 1)) pe_int))))))), ?_⟩
    have hl : (sOf wd).length ≤ sizeLine := by
      rw [sOf_len]
      exact sz (by omega)
    have li := lastOne_lt hi
    have er := rfind_one hi
    refine ⟨_, rfl, rfl, _, _, rfl, rfl, ?_⟩
    rw [er]
    refine ⟨_, rfl, _, _, rfl, rfl, _, rfl, ite2 (fun e => ?_) (fun e => ?_)⟩
    · have := of_decide_eq_true e
      omega
    · refine ⟨_, rfl, _, rfl, _, rfl, _, rfl, hl, _, _, rfl, rfl, ?_, _, rfl, _, rfl, hl, _, rfl, _, _, rfl, rfl, _, _, rfl, rfl, 49, _, rfl, rfl, ⟨by rw [sOf_len]; omega, by rw [sOf_len]; omega⟩, _, _, rfl, rfl, ?_, ?_⟩
      · rw [cutS_to wd i (by omega), sOf_len, List.length_take]
        exact sz (by show min i wd.length + 1 ≤ 100000; omega)
      · rw [cutS_to wd i (by omega), show (Str.ofString "0") = sOf [48] from rfl, sOf_app, sOf_len, sOf_len, List.length_append, List.length_take, List.length_replicate, sOf_len]
        exact sz (by show min i wd.length + 1 + _ ≤ 100000; omega)
      · rw [cutS_to wd i (by omega), show (Str.ofString "0") = sOf [48] from rfl, sOf_app, sOf_app]
        have e3 : wd.take i ++ [48] ++ List.replicate (((sOf wd).length : Int) - (i : Int) - 1).toNat 49 = lessW wd := by
          unfold lessW
          rw [hi, sOf_len, List.append_assoc]
          show wd.take i ++ 48 :: List.replicate _ 49 = wd.take i ++ 48 :: List.replicate _ 49
          rw [show ((wd.length : Int) - (i : Int) - 1).toNat = wd.length - i - 1 by omega]
        rw [e3]
        exact q
def nvs (ns : List Nat) : List V := (iv ns).map V.int
theorem nvs_at {ns : List Nat} {p : Nat} (h : p < ns.length) : (nvs ns)[p]? = some (.int ((ns.getD p 0 : Nat) : Int)) := by
  unfold nvs iv
  rw [List.map_map, List.getElem?_map, List.getD_eq_getElem?_getD, List.getElem?_eq_getElem h]
  rfl
theorem rep_nil (n : Nat) : (List.replicate n [V.str (Str.ofString "")]).flatten = (List.replicate n ([] : List Nat)).map sV := by
  induction n with
  | zero => rfl
  | succ k ih =>
    rw [List.replicate_succ, List.flatten_cons, ih, List.replicate_succ]
    rfl
def ahV (o : Option (List Nat)) : V := match o with
  | none => .non
  | some w => .str (sOf w)
theorem tabs_but {T : List (Addr × Str)} {H H' : Hp} {q : Addr} {xs : List V} (h : LamX.Tabs T H) (hq : H q = some (.lst xs)) (e : ∀ b o, b ≠ q → H b = some o → H' b = some o) : LamX.Tabs T H' := fun p hp => by
  obtain ⟨ps, h1, h2, h3⟩ := h p hp
  refine ⟨ps, e _ _ (fun z => ?_) h1, h2, fun pos cv hc => ?_⟩
  · rw [z, hq] at h1
    cases h1
  · obtain ⟨c, e1, e2⟩ := h3 pos cv hc
    refine ⟨c, e1, e _ _ (fun z => ?_) e2⟩
    rw [z, hq] at e2
    unfold LamX.CodeO at e2
    cases e2
def spWords (p : Addr) : Sp := fun vs H Q _ => ∃ (a : Addr) (ns : List Nat), vs = [.ref a] ∧ LamX.Tabs (TT p) H ∧ H a = some (.lst (nvs ns)) ∧ ns.length ≤ 100 ∧ (∀ n ∈ ns, n ≤ 12) ∧ okW ns (buckets (fun i => (iv ns).getD i 0) ns.length) (startW ns) = true ∧
  ∀ q H', LamX.ExtN H H' → LamX.Tabs (TT p) H' → H q = none → H' q = some (.lst ((wordsOf ns).map sV)) → Q (.ref q) H'
theorem ok_words_by {A : Ad} (T : Txt w K mg base A) : FnOk P w K mg base CX0 2 A.a_words_by A.d_words_by P_words_by (spWords A.p_making_order) := by
  have G_making_order := ok_making_order (P := P) (w := w) (base := base) T
  have G_one_less := ok_one_less (P := P) (w := w) (base := base) T
  refine T.F_words_by.ok sc_words_by (fun vs H Q E h => ?_) (fun cdv Ar outer s H vs Q E hr h => ?_)
  · obtain ⟨a, ns, rfl, _⟩ := h
    rfl
  · obtain ⟨a, ns, rfl, hT, ha, ln, hn, ok, qq⟩ := h
    refine ⟨_, (pss_cons (ps_set (i := 1) sc_words_by.nd rfl (Or.inl rfl) (pe_op op_rep (pe_lst (pa_cons pe_str pa_nil)) (pe_callB (r := fun xs H Q => ∃ p ys, xs = [.ref p] ∧ (SqL K H p ys ∨ SqT K H p ys) ∧ Q (.int ys.length) H) call_len_seq (by rfl) T.z_len PySem.boot_len (pa_cons (pv 0) pa_nil))))
      (pss_cons (ps_set (i := 2) sc_words_by.nd rfl (Or.inl rfl) pe_non)
      (pss_cons (ps_for PassesOwn.never rfl (pi_list (pe_call G_making_order (hr.mono (by decide)) (by rfl) T.g_making_order T.F_making_order.kp T.b_making_order .nil pass0 (pa_cons (pv 0) pa_nil))) (pg_name (i := 3) sc_words_by.nd rfl (Or.inl rfl))
      (pss_cons (ps_set (i := 4) sc_words_by.nd rfl (Or.inl rfl) (pe_ifExp (pt_cmpR op_isN (pv 2) pe_non (nomark _)) pe_str (pe_call G_one_less (hr.mono (by decide)) (by rfl) T.g_one_less T.F_one_less.kp T.b_one_less .nil pass0 (pa_cons (pv 2) pa_nil))))
      (pss_cons (ps_set (i := 2) sc_words_by.nd rfl (Or.inl rfl) (pe_bm PySem.F.plainAttrs_str PySem.F.slot_str_ljust PySem.F.type_str_ljust mt_ljustF (pv 4) (pa_cons (pe_ix (r := rIxL K) ix_list (pv 0) (pv 3) (fun _ _ => rfl)) (pa_cons pe_str pa_nil))))
      (pss_one (ps_asg (pv 2) (pg_sub (pv 1) (pv 3) set_list))))))
      (pss_one (ps_ret (pv 1)))))), ?_⟩
    refine ⟨(by show 1 ≤ sizeLine; decide), fun p1 hp1 => ?_⟩
    have s1 : Same H (upd H p1 (.lst [.str (Str.ofString "")])) := same_new hp1
    have nl : (nvs ns).length = ns.length := by unfold nvs; rw [List.length_map, iv_len]
    refine ⟨_, rfl, a, _, rfl, .inl (SqL.of (s1 _ _ ha)), _, _, _, rfl, rfl, upd_same, by omega, by omega, by rw [nl]; show 1 * _ ≤ sizeLine; exact sz (by omega), fun q hq => ?_⟩
    have s2 := s1.trans (same_new (o := .lst (List.replicate ((nvs ns).length : Int).toNat [V.str (Str.ofString "")]).flatten) hq)
    refine ⟨_, rfl, a, iv ns, rfl, tabs_same hT s2, s2 _ _ ha, by rw [iv_len]; omega, fun o H3 eN T3 fr => ?_⟩
    have hq3 : H3 q = some (.lst ((startW ns).1.map sV)) := by
      have := eN q _ upd_same (fun ps z => by cases z)
      rw [this]
      show some (HO.lst (List.replicate ((nvs ns).length : Int).toNat [V.str (Str.ofString "")]).flatten) = some (HO.lst ((List.replicate ns.length ([] : List Nat)).map sV))
      rw [rep_nil, nl]
      rfl
    have fq : H q = none := by
      cases z : H q with
      | none => rfl
      | some u =>
        rw [s1 _ _ z] at hq
        cases hq
    have nqo : q ≠ o := ne_of_none hq3 fr
    rw [order_iv hn]
    generalize hord : buckets (fun i => (iv ns).getD i 0) ns.length = ord at *
    have ha3 : H3 a = some (.lst (nvs ns)) := eN a _ (s2 _ _ ha) (fun ps z => by cases z)
    have nao : a ≠ o := ne_of_none ha3 fr
    have naq : a ≠ q := ne_of_none ha fq
    refine ⟨o, rfl, ⟨_, SqL.of upd_same⟩, for_list (K := K) (a := o) (xs := ord.map fun (i : Nat) => V.int (i : Int)) (fun i σ H' => ∃ y3 y4, σ = [some (.ref a), some (.ref q), some (ahV ((ord.take i).foldl (stepW ns) (startW ns)).2), y3, y4] ∧ H' q = some (.lst (((ord.take i).foldl (stepW ns) (startW ns)).1.map sV)) ∧ ∀ b u, b ≠ q → upd H3 o (.lst (ord.map fun (i : Nat) => V.int (i : Int))) b = some u → H' b = some u)
      ⟨none, none, rfl, by rw [upd_ne nqo]; exact hq3, fun b u _ h => h⟩ (fun i σ H' _ ⟨_, _, _, _, ke⟩ => SqL.of (ke o _ nqo.symm upd_same)) ?_ ?_⟩
    · rintro i x σ H' hx ⟨y3, y4, rfl, hq', ke⟩
      rw [List.getElem?_map] at hx
      obtain ⟨p, hp, rfl⟩ : ∃ p, ord[i]? = some p ∧ V.int (p : Int) = x := by
        cases e : ord[i]? with
        | none =>
          rw [e] at hx
          cases hx
        | some p =>
          rw [e] at hx
          exact ⟨p, rfl, Option.some.inj hx⟩
      have pn : p < ns.length := by
        have := List.mem_of_getElem? hp
        rw [← hord] at this
        exact mem_buckets this
      have lst := lenW_fold hn (ord.take i) _ (lenW_start ns)
      have ok1 := okW_at ord (startW ns) i p hp ok
      have fst : (ord.take (i + 1)).foldl (stepW ns) (startW ns) = stepW ns ((ord.take i).foldl (stepW ns) (startW ns)) p := by
        rw [take_more ord i p hp, List.foldl_append]
        rfl
      have wl : ((ord.take i).foldl (stepW ns) (startW ns)).1.length = ns.length := by
        rw [words_len]
        exact List.length_replicate
      have ha' : H' a = some (.lst (nvs ns)) := ke a _ naq (by rw [upd_ne nao]; exact ha3)
      have atl : atI (nvs ns) (p : Int) = some (.int ((ns.getD p 0 : Nat) : Int)) := atI_nat (nvs_at pn)
      have hg : ns.getD p 0 ≤ 12 := by
        rw [List.getD_eq_getElem?_getD, List.getElem?_eq_getElem pn]
        exact hn _ (List.getElem_mem pn)
      generalize hst : (ord.take i).foldl (stepW ns) (startW ns) = st at *
      cases h2 : st.2 with
      | none =>
        have e1 : st.1.set p ([] ++ List.replicate (((ns.getD p 0 : Nat) : Int).toNat - ([] : List Nat).length) 49) = (stepW ns st p).1 := by
          unfold stepW
          rw [h2]
          rfl
        have e2 : (stepW ns st p).2 = some ([] ++ List.replicate (ns.getD p 0 - ([] : List Nat).length) 49) := by
          unfold stepW
          rw [h2]
        refine ⟨_, rfl, rfl, _, rfl, ?_⟩
        refine ⟨_, rfl, rfl, _, rfl, _, rfl, _, _, _, .int ((ns.getD p 0 : Nat) : Int), rfl, rfl, SqL.of ha', atl, ([] : List Nat), _, 49, rfl, rfl, ⟨by omega, by omega⟩, ?_⟩
        refine ⟨_, rfl, _, rfl, _, rfl, q, _, _, p, rfl, rfl, hq', Evl.ixN_nat (by rw [List.length_map, wl]; omega), ?_⟩
        refine ⟨some (.int (p : Int)), some (.str (sOf ([] : List Nat))), ?_, ?_, fun b u nb hb => by rw [upd_ne nb]; exact ke b u nb hb⟩
        · rw [fst, e2]
          rfl
        · rw [fst, upd_same]
          show some (HO.lst ((st.1.map sV).set p (sV (([] : List Nat) ++ List.replicate (((ns.getD p 0 : Nat) : Int).toNat - (([] : List Nat)).length) 49)))) = _
          rw [← List.map_set, e1]
      | some wd =>
        obtain ⟨j, hj⟩ := ok1 wd h2
        have lw := lst wd h2
        have ll := lessW_len hj
        have e1 : st.1.set p (lessW wd ++ List.replicate (((ns.getD p 0 : Nat) : Int).toNat - (lessW wd).length) 49) = (stepW ns st p).1 := by
          unfold stepW
          rw [h2]
          rfl
        have e2 : (stepW ns st p).2 = some (lessW wd ++ List.replicate (ns.getD p 0 - (lessW wd).length) 49) := by
          unfold stepW
          rw [h2]
        refine ⟨_, rfl, rfl, _, rfl, _, rfl, wd, j, rfl, hj, by omega, ?_⟩
        refine ⟨_, rfl, rfl, _, rfl, _, rfl, _, _, _, .int ((ns.getD p 0 : Nat) : Int), rfl, rfl, SqL.of ha', atl, (lessW wd), _, 49, rfl, rfl, ⟨by omega, by omega⟩, ?_⟩
        refine ⟨_, rfl, _, rfl, _, rfl, q, _, _, p, rfl, rfl, hq', Evl.ixN_nat (by rw [List.length_map, wl]; omega), ?_⟩
        refine ⟨some (.int (p : Int)), some (.str (sOf (lessW wd))), ?_, ?_, fun b u nb hb => by rw [upd_ne nb]; exact ke b u nb hb⟩
        · rw [fst, e2]
          rfl
        · rw [fst, upd_same]
          show some (HO.lst ((st.1.map sV).set p (sV ((lessW wd) ++ List.replicate (((ns.getD p 0 : Nat) : Int).toNat - ((lessW wd)).length) 49)))) = _
          rw [← List.map_set, e1]
    · rintro σ H' ⟨y3, y4, rfl, hq', ke⟩
      rw [List.length_map, List.take_length] at hq'
      have hw : (ord.foldl (stepW ns) (startW ns)).1 = wordsOf ns := by
        unfold Fp.wordsOf
        rw [hord]
      rw [hw] at hq'
      refine ⟨_, rfl, qq q H' (fun b u hb nt => ?_) ?_ fq hq'⟩
      · have nbq : b ≠ q := ne_of_none hb fq
        have h3 := eN b u (s2 _ _ hb) nt
        exact ke b u nbq (by rw [upd_ne (ne_of_none h3 fr)]; exact h3)
      · refine tabs_but (q := q) (H := upd H3 o (.lst (ord.map fun (i : Nat) => V.int (i : Int)))) (tabs_same T3 (same_new fr)) (by rw [upd_ne nqo]; exact hq3) ke

/-! ### the bits of runs -/
def tabL (d : Bool) : List Nat := if d = true then darkL else lightL
def cellS (d : Bool) : Str := if d = true then Str.ofString "#" else Str.ofString "."
def tabW (d : Bool) : List (List Nat) := Fp.wordsOf (tabL d)
theorem tabW_len (d : Bool) : (tabW d).length = 20 := by
  cases d
  · exact len_light
  · exact len_dark
theorem tabW_lens (d : Bool) : ∀ w ∈ tabW d, w.length ≤ 12 := by
  cases d
  · exact lens_light
  · exact lens_dark
theorem tabW_at {d : Bool} {r : Nat} (h : r < 20) : ((tabW d).map sV)[r]? = some (sV ((tabW d).getD r [])) ∧ ((tabW d).getD r []).length ≤ 12 := by
  have h2 : r < (tabW d).length := by rw [tabW_len]; exact h
  rw [List.getElem?_map, List.getD_eq_getElem?_getD, List.getElem?_eq_getElem h2]
  exact ⟨rfl, tabW_lens d _ (List.getElem_mem h2)⟩
def spColour (p : Addr) : Sp := fun vs H Q _ => ∃ d : Bool, vs = [.str (cellS d)] ∧ LamX.Tabs (TT p) H ∧
  ∀ q H', LamX.ExtN H H' → LamX.Tabs (TT p) H' → H q = none → H' q = some (.lst ((tabW d).map sV)) → Q (.ref q) H'
theorem ok_colour_words {A : Ad} (T : Txt w K mg base A) : FnOk P w K mg base CX0 3 A.a_colour_words A.d_colour_words P_colour_words (spColour A.p_making_order) := by
  have G_words_by := ok_words_by (P := P) (w := w) (base := base) T
  refine T.F_colour_words.ok sc_colour_words (fun vs H Q E h => ?_) (fun cdv Ar outer s H vs Q E hr h => ?_)
  · obtain ⟨d, rfl, _⟩ := h
    rfl
  · obtain ⟨d, rfl, hT, q⟩ := h
    refine ⟨_, (pss_one (ps_ret (pe_call G_words_by (hr.mono (by decide)) (by rfl) T.g_words_by T.F_words_by.kp T.b_words_by .nil pass0 (pa_cons (pe_callTy call_list_of (by rfl) T.z_list (by decide +kernel) (pa_cons (pe_ix (r := rIxD K w) ix_kdict (pe_glob (v := .ref A.t_LENGTHS_words) (by rfl) T.c_LENGTHS_words rfl) (pv 0) (fun _ _ => rfl)) pa_nil)) pa_nil)))), ?_⟩
    cases d with
    | false =>
      refine ⟨_, rfl, _, _, _, rfl, rfl, T.D_LENGTHS_words_0, _, _, rfl, .inr (T.S_LENGTHS_words_0 H), fun l hl => ?_⟩
      refine ⟨l, lightL, rfl, tabs_same hT (same_new hl), upd_same, by decide, by decide, light_ok, fun q2 H' eN T2 fq hq => ?_⟩
      exact q q2 H' (fun b o hb nt => eN b o (same_new hl _ _ hb) nt) T2 ((same_new hl).free fq) hq
    | true =>
      refine ⟨_, rfl, _, _, _, rfl, rfl, T.D_LENGTHS_words_1, _, _, rfl, .inr (T.S_LENGTHS_words_1 H), fun l hl => ?_⟩
      refine ⟨l, darkL, rfl, tabs_same hT (same_new hl), upd_same, by decide, by decide, dark_ok, fun q2 H' eN T2 fq hq => ?_⟩
      exact q q2 H' (fun b o hb nt => eN b o (same_new hl _ _ hb) nt) T2 ((same_new hl).free fq) hq
def spRun0 : Sp := fun vs H Q _ => ∃ (a : Addr) (d : Bool) (r : Nat) (x : Int), vs = [.ref a, .int x] ∧ x = r ∧ H a = some (.lst ((tabW d).map sV)) ∧ r < 16 ∧ Q (.str (sOf ((tabW d).getD r []))) H
theorem ok_run_by0 {A : Ad} (T : Txt w K mg base A) : FnOk P w K mg base CX0 1 A.a_run_by A.d_run_by P_run_by spRun0 := by
  refine T.F_run_by.ok sc_run_by (fun vs H Q E h => ?_) (fun cdv Ar outer s H vs Q E hr h => ?_)
  · obtain ⟨a, d, r, x, rfl, _⟩ := h
    rfl
  · obtain ⟨a, d, r, _, rfl, rfl, ha, hr16, q⟩ := h
    refine ⟨_, (pss_cons (ps_if (pt_cmpR op_lt (pv 1) (pe_glob (v := .int (16)) (by rfl) T.c_ENDS ⟨_, rfl⟩) (nomark _))
      (pss_one (ps_ret (pe_ix (r := rIxL K) ix_list (pv 0) (pv 1) (fun _ _ => rfl)))) pss_nil)
      (pss_cons ps_never
      (pss_one ps_never))), ?_⟩
    refine ⟨_, rfl, _, _, rfl, rfl, _, rfl, ite2 (fun e => ?_) (fun e => ?_)⟩
    · exact ⟨_, rfl, _, rfl, _, _, _, _, rfl, rfl, SqL.of ha, atI_nat (tabW_at (by omega)).1, q⟩
    · exact absurd (decide_eq_true (by omega)) e
def spRun : Sp := fun vs H Q _ => ∃ (a : Addr) (d : Bool) (r : Nat) (x : Int), vs = [.ref a, .int x] ∧ x = r ∧ H a = some (.lst ((tabW d).map sV)) ∧ r ≤ 64 ∧ Q (.str (sOf (runT (tabW d) r))) H
theorem ok_run_by {A : Ad} (T : Txt w K mg base A) : FnOk P w K mg base CX0 2 A.a_run_by A.d_run_by P_run_by spRun := by
  have G_run_by := ok_run_by0 (P := P) (w := w) (base := base) T
  refine T.F_run_by.ok sc_run_by (fun vs H Q E h => ?_) (fun cdv Ar outer s H vs Q E hr h => ?_)
  · obtain ⟨a, d, r, x, rfl, _⟩ := h
    rfl
  · obtain ⟨a, d, r, _, rfl, rfl, ha, hr64, q⟩ := h
    refine ⟨_, (pss_cons (ps_if (pt_cmpR op_lt (pv 1) (pe_glob (v := .int (16)) (by rfl) T.c_ENDS ⟨_, rfl⟩) (nomark _))
      (pss_one (ps_ret (pe_ix (r := rIxL K) ix_list (pv 0) (pv 1) (fun _ _ => rfl)))) pss_nil)
      (pss_cons (ps_set (i := 2) sc_run_by.nd rfl (Or.inl rfl) (pe_callB (call_min2 rfl) (by rfl) T.z_min (by decide +kernel) (pa_cons (pe_op op_fdiv (pv 1) (pe_glob (v := .int (16)) (by rfl) T.c_ENDS ⟨_, rfl⟩)) (pa_cons (pe_glob (v := .int (4)) (by rfl) T.c_MAKERS ⟨_, rfl⟩) pa_nil))))
      (pss_one (ps_ret (pe_op op_add_str (pe_ix (r := rIxL K) ix_list (pv 0) (pe_op op_sub (pe_op op_add (pe_glob (v := .int (16)) (by rfl) T.c_ENDS ⟨_, rfl⟩) (pv 2)) pe_int) (fun _ _ => rfl)) (pe_call G_run_by (hr.mono (by decide)) (by rfl) T.g_run_by T.F_run_by.kp T.b_run_by .nil pass0 (pa_cons (pv 0) (pa_cons (pe_op op_sub (pv 1) (pe_op op_mul (pv 2) (pe_glob (v := .int (16)) (by rfl) T.c_ENDS ⟨_, rfl⟩))) pa_nil)))))))), ?_⟩
    refine ⟨_, rfl, _, _, rfl, rfl, _, rfl, ite2 (fun e => ?_) (fun e => ?_)⟩
    · have r16 : r < 16 := by
        have := of_decide_eq_true e
        omega
      unfold runT at q
      rw [if_pos r16] at q
      exact ⟨_, rfl, _, rfl, _, _, _, _, rfl, rfl, SqL.of ha, atI_nat (tabW_at (by omega)).1, q⟩
    · have r16 : ¬ r < 16 := fun z => e (decide_eq_true (by omega))
      unfold runT at q
      rw [if_neg r16] at q
      have em : (if (4 : Int) < (r : Int) / 16 then (4 : Int) else (r : Int) / 16) = ((r / 16 : Nat) : Int) := by
        rw [if_neg (by omega)]
        omega
      refine ⟨_, rfl, _, _, rfl, rfl, ⟨by decide, by decide⟩, _, _, rfl, ?_⟩
      rw [em]
      have t1 := tabW_at (d := d) (r := 15 + r / 16) (by omega)
      have t2 := tabW_at (d := d) (r := r - r / 16 * 16) (by omega)
      refine ⟨_, rfl, _, rfl, _, _, rfl, rfl, _, _, rfl, rfl, _, _, _, sV ((tabW d).getD (15 + r / 16) []), rfl, rfl, SqL.of ha, ?_, _, rfl, _, rfl, _, rfl, _, _, rfl, rfl, .inr ⟨by decide, by decide⟩, _, _, rfl, rfl, a, d, r - r / 16 * 16, _, rfl, by omega, ha, by omega, _, _, rfl, rfl, ?_, ?_⟩
      · rw [show (16 : Int) + ((r / 16 : Nat) : Int) - 1 = ((15 + r / 16 : Nat) : Int) by omega]
        exact atI_nat t1.1
      · rw [sOf_len, sOf_len]
        exact sz (by have := t1.2; have := t2.2; omega)
      · rw [sOf_app]
        exact q

/-! ### colours -/
def cellC (d : Bool) : Nat := if d = true then 35 else 46
theorem cellS_eq (d : Bool) : cellS d = sOf [cellC d] := by cases d <;> rfl
theorem oth_cellC (d : Bool) : oth (cellC d) = cellC (!d) := by cases d <;> rfl
theorem runT_len {d : Bool} {r : Nat} (h : r ≤ 64) : (runT (tabW d) r).length ≤ 24 := by
  unfold runT
  split
  · have := (tabW_at (d := d) (r := r) (by omega)).2
    omega
  · have t1 := (tabW_at (d := d) (r := 15 + r / 16) (by omega)).2
    have t2 := (tabW_at (d := d) (r := r - r / 16 * 16) (by omega)).2
    rw [List.length_append]
    omega
theorem merge2 (v0 v1 : V) : mergeK [] [(.inr (cellS false), v0), (.inr (cellS true), v1)] = [(.inr (cellS false), v0), (.inr (cellS true), v1)] := rfl
theorem dget2 {H : Hp} {a : Addr} {v0 v1 : V} (d : Bool) (h : H a = some (.dK [(.inr (cellS false), v0), (.inr (cellS true), v1)])) : DGet H a (.str (cellS d)) (some (if d = true then v1 else v0)) := by
  have e := DGet.k (k := .inr (cellS d)) h
  cases d
  · exact e
  · exact e
theorem tabs_butD {T : List (Addr × Str)} {H H' : Hp} {q : Addr} {kvs : List (Key × V)} (h : LamX.Tabs T H) (hq : H q = some (.dK kvs)) (e : ∀ b o, b ≠ q → H b = some o → H' b = some o) : LamX.Tabs T H' := fun p hp => by
  obtain ⟨ps, h1, h2, h3⟩ := h p hp
  refine ⟨ps, e _ _ (fun z => ?_) h1, h2, fun pos cv hc => ?_⟩
  · rw [z, hq] at h1
    cases h1
  · obtain ⟨c, e1, e2⟩ := h3 pos cv hc
    refine ⟨c, e1, e _ _ (fun z => ?_) e2⟩
    rw [z, hq] at e2
    unfold LamX.CodeO at e2
    cases e2

/-! ### the plain telling -/
def plainF : List Nat → Bool → List Nat
  | [], _ => []
  | r :: rs, d => runT (tabW d) r ++ plainF rs (!d)
def plainB (l : List Nat) : List Nat := plainF (runsL l) false
def xorN (d : Bool) : Nat → Bool
  | 0 => d
  | i + 1 => !xorN d i
theorem xorN_not (d : Bool) : ∀ i, xorN (!d) i = !xorN d i
  | 0 => rfl
  | i + 1 => by
    show (!xorN (!d) i) = !!xorN d i
    rw [xorN_not d i]
theorem plainF_more : ∀ (rs : List Nat) (d : Bool) (i r : Nat), rs[i]? = some r → plainF (rs.take (i + 1)) d = plainF (rs.take i) d ++ runT (tabW (xorN d i)) r
  | [], _, _, _, h => by cases h
  | y :: rs, d, 0, r, h => by
    have : y = r := Option.some.inj h
    subst this
    show runT (tabW d) y ++ plainF (rs.take 0) (!d) = [] ++ runT (tabW d) y
    rw [List.take_zero]
    show runT (tabW d) y ++ [] = _
    rw [List.append_nil, List.nil_append]
  | y :: rs, d, i + 1, r, h => by
    show runT (tabW d) y ++ plainF (rs.take (i + 1)) (!d) = (runT (tabW d) y ++ plainF (rs.take i) (!d)) ++ runT (tabW (!xorN d i)) r
    rw [plainF_more rs (!d) i r h, xorN_not, List.append_assoc]
theorem plainF_len : ∀ (rs : List Nat) (d : Bool), (∀ r ∈ rs, r ≤ 64) → (plainF rs d).length ≤ 24 * rs.length
  | [], _, _ => Nat.zero_le _
  | r :: rs, d, h => by
    have h1 := plainF_len rs (!d) fun x hx => h x (List.mem_cons_of_mem _ hx)
    have h2 := runT_len (d := d) (h r (List.mem_cons_self ..))
    show (runT (tabW d) r ++ plainF rs (!d)).length ≤ _
    rw [List.length_append, List.length_cons]
    omega
theorem runs_le {l : List Nat} (h : Row l) (h64 : l.length ≤ 64) : ∀ r ∈ runsL l, r ≤ 64 := fun r hr => by
  have := le_sum hr
  rw [runs_sum h] at this
  omega
theorem plainB_len {l : List Nat} (h : Row l) (h64 : l.length ≤ 64) : (plainB l).length ≤ 1560 := by
  have h1 := plainF_len (runsL l) false (runs_le h h64)
  have h2 := runs_len h
  unfold plainB
  omega
def spPlain (p : Addr) : Sp := fun vs H Q _ => ∃ (l : List Nat), vs = [.str (sOf l)] ∧ Row l ∧ 0 < l.length ∧ l.length ≤ 64 ∧ LamX.Tabs (TT p) H ∧ ∀ H', LamX.ExtN H H' → LamX.Tabs (TT p) H' → Q (.str (sOf (plainB l))) H'
theorem ok_plain_bits {A : Ad} (T : Txt w K mg base A) : FnOk P w K mg base CX0 4 A.a_plain_bits A.d_plain_bits P_plain_bits (spPlain A.p_making_order) := by
  have G_runs_of := ok_runs_of (P := P) (w := w) (base := base) T
  have G_colour_words := ok_colour_words (P := P) (w := w) (base := base) T
  have G_other_cell := ok_other_cell (P := P) (w := w) (base := base) T
  have G_run_by := ok_run_by (P := P) (w := w) (base := base) T
  refine T.F_plain_bits.ok sc_plain_bits (fun vs H Q E h => ?_) (fun cdv Ar outer s H vs Q E hr h => ?_)
  · obtain ⟨l, rfl, _⟩ := h
    rfl
  · obtain ⟨l, rfl, rl, l0, l1, hT, q⟩ := h
    refine ⟨_, (pss_cons (ps_set (i := 1) sc_plain_bits.nd rfl (Or.inl rfl) (pe_disp (pps_cons (pe_glob (v := .str (Str.ofString ".")) (by rfl) T.c_LIGHT ⟨_, rfl⟩) (pe_call G_colour_words (hr.mono (by decide)) (by rfl) T.g_colour_words T.F_colour_words.kp T.b_colour_words .nil pass0 (pa_cons (pe_glob (v := .str (Str.ofString ".")) (by rfl) T.c_LIGHT ⟨_, rfl⟩) pa_nil)) (pps_cons (pe_glob (v := .str (Str.ofString "#")) (by rfl) T.c_DARK ⟨_, rfl⟩) (pe_call G_colour_words (hr.mono (by decide)) (by rfl) T.g_colour_words T.F_colour_words.kp T.b_colour_words .nil pass0 (pa_cons (pe_glob (v := .str (Str.ofString "#")) (by rfl) T.c_DARK ⟨_, rfl⟩) pa_nil)) pps_nil)) (by rfl) (by rfl) (by simp) (by decide)))
      (pss_cons (ps_set (i := 2) sc_plain_bits.nd rfl (Or.inl rfl) (pe_lst pa_nil))
      (pss_cons (ps_set (i := 3) sc_plain_bits.nd rfl (Or.inl rfl) (pe_glob (v := .str (Str.ofString ".")) (by rfl) T.c_LIGHT ⟨_, rfl⟩))
      (pss_cons (ps_for PassesOwn.never rfl (pi_list (pe_call G_runs_of (hr.mono (by decide)) (by rfl) T.g_runs_of T.F_runs_of.kp T.b_runs_of .nil pass0 (pa_cons (pv 0) pa_nil))) (pg_name (i := 4) sc_plain_bits.nd rfl (Or.inl rfl))
      (pss_cons (ps_expr (pe_bm PySem.F.plainAttrs_list PySem.F.slot_list_append PySem.F.type_list_append mt_append (pv 2) (pa_cons (pe_call G_run_by (hr.mono (by decide)) (by rfl) T.g_run_by T.F_run_by.kp T.b_run_by .nil pass0 (pa_cons (pe_dget (hu_of hr) (pv 1) (pv 3) (fun _ _ => rfl)) (pa_cons (pv 4) pa_nil))) pa_nil)))
      (pss_one (ps_set (i := 3) sc_plain_bits.nd rfl (Or.inl rfl) (pe_call G_other_cell (hr.mono (by decide)) (by rfl) T.g_other_cell T.F_other_cell.kp T.b_other_cell .nil pass0 (pa_cons (pv 3) pa_nil))))))
      (pss_one (ps_ret (pe_join pe_str (pv 2)))))))), ?_⟩
    refine fun dp hdp => ?_
    have s1 : Same H (upd H dp (.dK [])) := same_new hdp
    refine ⟨false, rfl, tabs_same hT s1, fun w0 H1 e1 T1 f0 h0 => ?_⟩
    refine ⟨true, rfl, T1, fun w1 H2 e2 T2 f1 h1 => ?_⟩
    have hd2 : H2 dp = some (.dK []) := e2 _ _ (e1 _ _ upd_same (fun ps z => by cases z)) (fun ps z => by cases z)
    refine ⟨hd2, [(.inr (cellS false), .ref w0), (.inr (cellS true), .ref w1)], rfl, (by show 2 ≤ 15; decide), ?_⟩
    rw [merge2]
    have h02 : H2 w0 = some (.lst ((tabW false).map sV)) := e2 _ _ h0 (fun ps z => by cases z)
    have n0 : w0 ≠ dp := ne_of h02 hd2 (by intro z; cases z)
    have n1 : w1 ≠ dp := ne_of h1 hd2 (by intro z; cases z)
    generalize hG : upd H2 dp (.dK [(.inr (cellS false), .ref w0), (.inr (cellS true), .ref w1)]) = G
    have gd : G dp = some (.dK [(.inr (cellS false), .ref w0), (.inr (cellS true), .ref w1)]) := by rw [← hG, upd_same]
    have g0 : G w0 = some (.lst ((tabW false).map sV)) := by rw [← hG, upd_ne n0]; exact h02
    have g1 : G w1 = some (.lst ((tabW true).map sV)) := by rw [← hG, upd_ne n1]; exact h1
    have eG : LamX.ExtN H G := fun b o hb nt => by
      have nb : b ≠ dp := ne_of_none hb hdp
      rw [← hG, upd_ne nb]
      exact e2 _ _ (e1 _ _ (s1 _ _ hb) nt) nt
    have TG : LamX.Tabs (TT A.p_making_order) G := by
      exact tabs_butD (q := dp) T2 hd2 (fun c o n z => by rw [← hG, upd_ne n]; exact z)
    refine ⟨(by show 0 ≤ sizeLine; decide), fun pp hpp => ?_⟩
    have sP : Same G (upd G pp (.lst [])) := same_new hpp
    refine ⟨_, rfl, l, rfl, rl, l0, by omega, fun rp H3 frp s3 hrp => ?_⟩
    have npr : rp ≠ pp := (ne_of_none upd_same frp).symm
    have lrl := runs_len rl
    have rle := runs_le rl l1
    refine ⟨rp, rfl, ⟨_, SqL.of hrp⟩, for_list (K := K) (a := rp) (xs := (runsL l).map iV) (fun i σ H' => ∃ (parts : List (List Nat)) (y4 : Option V), σ = [some (.str (sOf l)), some (.ref dp), some (.ref pp), some (.str (cellS (xorN false i))), y4] ∧ H' pp = some (.lst (parts.map sV)) ∧ parts.length = i ∧ parts.flatten = plainF ((runsL l).take i) false ∧ Same G H' ∧ H' rp = some (.lst ((runsL l).map iV)))
      ⟨[], none, rfl, s3 _ _ upd_same, rfl, rfl, sP.trans s3, hrp⟩ (fun i σ H' _ ⟨_, _, _, _, _, _, _, hh⟩ => SqL.of hh) ?_ ?_⟩
    · rintro i x σ H4 hx ⟨parts, y4, rfl, hp4, lp, fp4, s4, hr4⟩
      obtain ⟨r, hr, rfl⟩ : ∃ r, (runsL l)[i]? = some r ∧ iV r = x := by
        rw [List.getElem?_map] at hx
        cases e : (runsL l)[i]? with
        | none =>
          rw [e] at hx
          cases hx
        | some r =>
          rw [e] at hx
          exact ⟨r, rfl, Option.some.inj hx⟩
      have il := (List.getElem?_eq_some_iff.mp hr).1
      have r64 := rle r (List.mem_of_getElem? hr)
      have gw : ∃ wa, (if xorN false i = true then V.ref w1 else V.ref w0) = .ref wa ∧ H4 wa = some (.lst ((tabW (xorN false i)).map sV)) := by
        cases xorN false i
        · exact ⟨w0, rfl, s4 _ _ g0⟩
        · exact ⟨w1, rfl, s4 _ _ g1⟩
      obtain ⟨wa, ewa, hwa⟩ := gw
      have dg := dget2 (xorN false i) (s4 _ _ gd)
      rw [ewa] at dg
      refine ⟨_, rfl, .inl ⟨rfl, _, SqL.of hp4⟩, _, rfl, _, rfl, _, _, rfl, dg, _, rfl, wa, xorN false i, r, _, rfl, rfl, hwa, r64, pp, _, _, rfl, rfl, hp4, ?_, ?_⟩
      · rw [List.length_map]
        exact szl (by omega)
      refine ⟨_, rfl, cellC (xorN false i), (by rw [cellS_eq]; rfl), ?_⟩
      have npG : G pp = none := hpp
      refine ⟨parts ++ [runT (tabW (xorN false i)) r], some (iV r), ?_, ?_, ?_, ?_, Same.mut s4 npG, ?_⟩
      · rw [oth_cellC, ← cellS_eq]
        rfl
      · rw [upd_same, List.map_append]
        rfl
      · rw [List.length_append, lp]
        rfl
      · rw [flatten_snoc, fp4, plainF_more _ _ _ _ hr]
      · rw [upd_ne npr]
        exact hr4
    · rintro σ H4 ⟨parts, y4, rfl, hp4, lp, fp4, s4, hr4⟩
      rw [List.length_map, List.take_length] at fp4
      have pl : parts.flatten.length ≤ 100000 := by
        rw [fp4]
        have := plainB_len rl l1
        unfold plainB at this
        omega
      refine ⟨⟨_, rfl⟩, _, rfl, _, _, parts.map sOf, rfl, rfl, .inl (SqL.of (by rw [← sV_strs]; exact hp4)), join_flat_size pl, ?_⟩
      rw [join_flat, fp4]
      exact q H4 (eG.trans (extN_of s4)) (tabs_same TG s4)

/-! ### the bits of all runs -/
def rtab (d : Bool) (m : Nat) : List V := (List.range (m + 1)).map fun r => sV (runT (tabW d) r)
def spRTab (p : Addr) : Sp := fun vs H Q _ => ∃ (d : Bool) (m : Nat) (x : Int), vs = [.str (cellS d), .int x] ∧ x = m ∧ m ≤ 64 ∧ LamX.Tabs (TT p) H ∧ ∀ q H', LamX.ExtN H H' → LamX.Tabs (TT p) H' → H' q = some (.lst (rtab d m)) → Q (.ref q) H'
theorem ok_run_table {A : Ad} (T : Txt w K mg base A) : FnOk P w K mg base CX0 4 A.a_run_table A.d_run_table P_run_table (spRTab A.p_making_order) := by
  have G_colour_words := ok_colour_words (P := P) (w := w) (base := base) T
  have G_run_by := ok_run_by (P := P) (w := w) (base := base) T
  refine T.F_run_table.ok sc_run_table (fun vs H Q E h => ?_) (fun cdv Ar outer s H vs Q E hr h => ?_)
  · obtain ⟨d, m, x, rfl, _⟩ := h
    rfl
  · obtain ⟨d, m, _, rfl, rfl, m1, hT, q⟩ := h
    refine ⟨_, (pss_cons (ps_set (i := 2) sc_run_table.nd rfl (by first | exact Or.inl rfl | exact Or.inr rfl) (pe_call G_colour_words (hr.mono (by decide)) (by rfl) T.g_colour_words T.F_colour_words.kp T.b_colour_words .nil pass0 (pa_cons (pv 0) pa_nil)))
      (pss_one (ps_ret (pe_lc (own := [("run", 3)]) (g := gName 3) (tt := tYes) (by rfl) sc_run_table.nd (pi_range1 (by rfl) T.z_range (pa_cons (pe_op op_add (pv 1) pe_int) pa_nil)) (blkOk_by (own := [("run", 3)]) (N := N_run_table) (sc := defScope s_run_table) (by decide +kernel)) (fun _ _ _ _ _ => pg_name (i := 3) sc_run_table.nd rfl (Or.inl rfl)) (fun _ _ _ _ _ => pts_nil) (fun s5 H5 C5 cl5 fp5 => (pe_call G_run_by (hr.mono (by decide)) (by rfl) T.g_run_by T.F_run_by.kp T.b_run_by .nil pass0 (pa_cons (pv 2) (pa_cons (pv 3) pa_nil)))))))), ?_⟩
    refine ⟨_, rfl, d, rfl, hT, fun wq H1 e1 T1 fw hw => ?_⟩
    refine ⟨_, rfl, _, _, rfl, rfl, _, rfl, by omega, by omega, fun D hD => ?_⟩
    rw [show ((m : Int) + 1).toNat = m + 1 by omega]
    refine lc_range (lo := 0) (n := m + 1) (fun i H' => Same H1 H' ∧ H' D = some (.lst ((List.range i).map fun r => sV (runT (tabW d) r)))) ⟨same_new hD, upd_same⟩ ?_ ?_
    · rintro i H2 hi ⟨sm, hD2⟩
      refine ⟨rfl, _, rfl, _, rfl, wq, d, i, _, rfl, Int.zero_add _, sm _ _ hw, by omega, _, hD2, ?_, Same.mut sm hD, ?_⟩
      · rw [List.length_map, List.length_range]
        exact szl (by omega)
      · rw [upd_same, range_more]
        rfl
    · rintro H2 ⟨sm, hD2⟩
      exact q D H2 (e1.trans (extN_of sm)) (tabs_same T1 sm) hD2
def TabD (H : Hp) (a : Addr) (m : Nat) : Prop := ∃ q0 q1, H a = some (.dK [(.inr (cellS false), .ref q0), (.inr (cellS true), .ref q1)]) ∧ H q0 = some (.lst (rtab false m)) ∧ H q1 = some (.lst (rtab true m))
theorem TabD.ext {H H' : Hp} {a : Addr} {m : Nat} (h : TabD H a m) (e : LamX.ExtN H H') : TabD H' a m := by
  obtain ⟨q0, q1, h1, h2, h3⟩ := h
  exact ⟨q0, q1, e _ _ h1 (fun ps z => by cases z), e _ _ h2 (fun ps z => by cases z), e _ _ h3 (fun ps z => by cases z)⟩
theorem TabD.get {H : Hp} {a : Addr} {m : Nat} (h : TabD H a m) (d : Bool) : ∃ q, DGet H a (.str (cellS d)) (some (.ref q)) ∧ H q = some (.lst (rtab d m)) := by
  obtain ⟨q0, q1, h1, h2, h3⟩ := h
  have e := dget2 d h1
  cases d
  · exact ⟨q0, e, h2⟩
  · exact ⟨q1, e, h3⟩
theorem rtab_at {d : Bool} {m r : Nat} (h : r ≤ m) : (rtab d m)[r]? = some (sV (runT (tabW d) r)) := by
  unfold rtab
  rw [List.getElem?_map, List.getElem?_range (by omega)]
  rfl
def spRTabs (p : Addr) : Sp := fun vs H Q _ => ∃ (m : Nat) (x : Int), vs = [.int x] ∧ x = m ∧ m ≤ 64 ∧ LamX.Tabs (TT p) H ∧ ∀ q H', LamX.ExtN H H' → LamX.Tabs (TT p) H' → TabD H' q m → Q (.ref q) H'
theorem ok_run_tables {A : Ad} (T : Txt w K mg base A) : FnOk P w K mg base CX0 5 A.a_run_tables A.d_run_tables P_run_tables (spRTabs A.p_making_order) := by
  have G_run_table := ok_run_table (P := P) (w := w) (base := base) T
  refine T.F_run_tables.ok sc_run_tables (fun vs H Q E h => ?_) (fun cdv Ar outer s H vs Q E hr h => ?_)
  · obtain ⟨m, x, rfl, _⟩ := h
    rfl
  · obtain ⟨m, _, rfl, rfl, m1, hT, q⟩ := h
    refine ⟨_, (pss_one (ps_ret (pe_disp (pps_cons (pe_glob (v := .str (Str.ofString ".")) (by rfl) T.c_LIGHT ⟨_, rfl⟩) (pe_call G_run_table (hr.mono (by decide)) (by rfl) T.g_run_table T.F_run_table.kp T.b_run_table .nil pass0 (pa_cons (pe_glob (v := .str (Str.ofString ".")) (by rfl) T.c_LIGHT ⟨_, rfl⟩) (pa_cons (pv 0) pa_nil))) (pps_cons (pe_glob (v := .str (Str.ofString "#")) (by rfl) T.c_DARK ⟨_, rfl⟩) (pe_call G_run_table (hr.mono (by decide)) (by rfl) T.g_run_table T.F_run_table.kp T.b_run_table .nil pass0 (pa_cons (pe_glob (v := .str (Str.ofString "#")) (by rfl) T.c_DARK ⟨_, rfl⟩) (pa_cons (pv 0) pa_nil))) pps_nil)) (by rfl) (by rfl) (by simp) (by decide)))), ?_⟩
    refine fun dp hdp => ?_
    have s1 : Same H (upd H dp (.dK [])) := same_new hdp
    refine ⟨_, rfl, false, m, _, rfl, rfl, m1, tabs_same hT s1, fun w0 H1 e1 T1 h0 => ?_⟩
    refine ⟨_, rfl, true, m, _, rfl, rfl, m1, T1, fun w1 H2 e2 T2 h1 => ?_⟩
    have hd2 : H2 dp = some (.dK []) := e2 _ _ (e1 _ _ upd_same (fun ps z => by cases z)) (fun ps z => by cases z)
    refine ⟨hd2, [(.inr (cellS false), .ref w0), (.inr (cellS true), .ref w1)], rfl, (by show 2 ≤ 15; decide), ?_⟩
    rw [merge2]
    have h02 : H2 w0 = some (.lst (rtab false m)) := e2 _ _ h0 (fun ps z => by cases z)
    have n0 : w0 ≠ dp := ne_of h02 hd2 (by intro z; cases z)
    have n1 : w1 ≠ dp := ne_of h1 hd2 (by intro z; cases z)
    generalize hG : upd H2 dp (.dK [(.inr (cellS false), .ref w0), (.inr (cellS true), .ref w1)]) = G
    refine q dp G (fun b o hb nt => ?_) (tabs_butD (q := dp) T2 hd2 (fun c o n z => by rw [← hG, upd_ne n]; exact z)) ⟨w0, w1, by rw [← hG, upd_same], by rw [← hG, upd_ne n0]; exact h02, by rw [← hG, upd_ne n1]; exact h1⟩
    have nb : b ≠ dp := ne_of_none hb hdp
    rw [← hG, upd_ne nb]
    exact e2 _ _ (e1 _ _ (s1 _ _ hb) nt) nt

def thirdL : List Nat := [1, 3, 3, 3, 5, 5, 6, 6, 6]
def thirdW : List (List Nat) := Fp.wordsOf thirdL

/-! ### steps by the row above -/
theorem ne_word' {a b : Str} (h : a ≠ b) : ¬ (V.str a = V.str b) := fun e => h (V.str.inj e)
def spChange : Sp := fun vs H Q _ => ∃ (ab : List Nat) (s c : Nat) (x : Int), vs = [.str (sOf ab), .int x, .str (sOf [c])] ∧ x = (s : Int) - 1 ∧ s ≤ ab.length ∧ ab.length ≤ 1000 ∧ Q (.int (fch ab s c : Int)) H
theorem ok_first_change {A : Ad} (T : Txt w K mg base A) : FnOk P w K mg base CX0 2 A.a_first_change A.d_first_change P_first_change spChange := by
  have G_first_place := ok_first_place (P := P) (w := w) (base := base) T
  have G_other_cell := ok_other_cell (P := P) (w := w) (base := base) T
  refine T.F_first_change.ok sc_first_change (fun vs H Q E h => ?_) (fun cdv Ar outer s H vs Q E hr h => ?_)
  · obtain ⟨ab, s, c, x, rfl, _⟩ := h
    rfl
  · obtain ⟨ab, st, c, _, rfl, rfl, hs, la, q⟩ := h
    refine ⟨_, (pss_cons (ps_set (i := 3) sc_first_change.nd rfl (Or.inl rfl) (pe_op op_add (pv 1) pe_int))
      (Evl.pss_cut (ps_if (PW.pt (pw_and (pt_cmpR op_ge (pv 1) pe_int (nomark _)) (pw_and1 (pt_cmpR op_ne (pe_ix ix_str (pv 0) (pv 1) (fun _ _ => rfl)) (pv 2) (nomark _)))))
      (pss_one (ps_set (i := 3) sc_first_change.nd rfl (Or.inl rfl) (pe_call G_first_place (hr.mono (by decide)) (by rfl) T.g_first_place T.F_first_place.kp T.b_first_place .nil pass0 (pa_cons (pv 0) (pa_cons (pv 2) (pa_cons (pv 3) pa_nil)))))) pss_nil)
      (pss_one (ps_ret (pe_call G_first_place (hr.mono (by decide)) (by rfl) T.g_first_place T.F_first_place.kp T.b_first_place .nil pass0 (pa_cons (pv 0) (pa_cons (pe_call G_other_cell (hr.mono (by decide)) (by rfl) T.g_other_cell T.F_other_cell.kp T.b_other_cell .nil pass0 (pa_cons (pv 2) pa_nil)) (pa_cons (pv 3) pa_nil)))))))), ?_⟩
    have hl : (sOf ab).length ≤ sizeLine := by
      rw [sOf_len]
      exact sz (by omega)
    refine ⟨_, rfl, _, _, rfl, rfl, ?_⟩
    refine ⟨fun σ H' => σ = [some (.str (sOf ab)), some (.int ((st : Int) - 1)), some (.str (sOf [c])), some (.int (fchS ab st c : Int))] ∧ H' = H, ?_, ?_⟩
    · refine ⟨_, rfl, _, _, rfl, rfl, _, rfl, ?_⟩
      by_cases e : 1 ≤ st
      · refine iteD1 (by omega) ?_
        have lt : st - 1 < ab.length := by omega
        have e1 : ab[st - 1]? = some ab[st - 1] := List.getElem?_eq_getElem lt
        refine ⟨_, rfl, _, rfl, _, _, _, rfl, rfl, hl, (by rw [show (st : Int) - 1 = ((st - 1 : Nat) : Int) by omega]; exact sOf_at e1), _, rfl, rfl, _, rfl, ?_⟩
        by_cases e2 : ab[st - 1] = c
        · refine iteN0 (vstr1.mpr e2) ⟨?_, rfl⟩
          have : fchS ab st c = st := by
            unfold fchS
            rw [if_neg (fun z => z.2 (by rw [e1, e2]))]
          rw [this]
          show [_, _, _, some (V.int ((st : Int) - 1 + 1))] = _
          rw [show (st : Int) - 1 + 1 = (st : Int) by omega]
        · refine iteN1 (fun z => e2 (vstr1.mp z)) ?_
          refine ⟨_, rfl, _, rfl, _, rfl, ab, c, st, _, rfl, by omega, by omega, ?_⟩
          have : fchS ab st c = fp ab c st := by
            unfold fchS
            rw [if_pos ⟨e, fun z => e2 (by rw [e1] at z; exact Option.some.inj z)⟩]
          rw [this]
          exact ⟨rfl, rfl⟩
      · refine iteD0 (by omega) (iteF ⟨?_, rfl⟩)
        have : fchS ab st c = st := by
          unfold fchS
          rw [if_neg (fun z => e z.1)]
        rw [this]
        show [_, _, _, some (V.int ((st : Int) - 1 + 1))] = _
        rw [show (st : Int) - 1 + 1 = (st : Int) by omega]
    · rintro σ H1 ⟨rfl, rfl⟩
      exact ⟨_, rfl, _, rfl, c, rfl, _, rfl, ab, oth c, fchS ab st c, _, rfl, rfl, by omega, q⟩
def spStepAt : Sp := fun vs H Q _ => ∃ (ab l : List Nat) (s c : Nat) (x : Int), vs = [.str (sOf ab), .str (sOf l), .int x, .str (sOf [c])] ∧ x = (s : Int) - 1 ∧ s ≤ l.length ∧ ab.length = l.length ∧ l.length ≤ 1000 ∧ ∀ p H', H p = none → Same H H' → H' p = some (.tup (stV (stepAt ab l s c))) → Q (.ref p) H'
theorem ok_step_at {A : Ad} (T : Txt w K mg base A) : FnOk P w K mg base CX0 3 A.a_step_at A.d_step_at P_step_at spStepAt := by
  have G_first_place := ok_first_place (P := P) (w := w) (base := base) T
  have G_first_change := ok_first_change (P := P) (w := w) (base := base) T
  have G_other_cell := ok_other_cell (P := P) (w := w) (base := base) T
  refine T.F_step_at.ok sc_step_at (fun vs H Q E h => ?_) (fun cdv Ar outer s H vs Q E hr h => ?_)
  · obtain ⟨ab, l, s, c, x, rfl, _⟩ := h
    rfl
  · obtain ⟨ab, l, st, c, _, rfl, rfl, hs, el, ll, q⟩ := h
    refine ⟨_, (pss_cons (ps_set (i := 4) sc_step_at.nd rfl (Or.inl rfl) (pe_call G_first_place (hr.mono (by decide)) (by rfl) T.g_first_place T.F_first_place.kp T.b_first_place .nil pass0 (pa_cons (pv 1) (pa_cons (pe_call G_other_cell (hr.mono (by decide)) (by rfl) T.g_other_cell T.F_other_cell.kp T.b_other_cell .nil pass0 (pa_cons (pv 3) pa_nil)) (pa_cons (pe_op op_add (pv 2) pe_int) pa_nil)))))
      (pss_cons (ps_set (i := 5) sc_step_at.nd rfl (Or.inl rfl) (pe_call G_first_change (hr.mono (by decide)) (by rfl) T.g_first_change T.F_first_change.kp T.b_first_change .nil pass0 (pa_cons (pv 0) (pa_cons (pv 2) (pa_cons (pv 3) pa_nil)))))
      (pss_cons (ps_if (pt_cmpR op_lt (pe_call G_first_place (hr.mono (by decide)) (by rfl) T.g_first_place T.F_first_place.kp T.b_first_place .nil pass0 (pa_cons (pv 0) (pa_cons (pv 3) (pa_cons (pe_op op_add (pv 5) pe_int) pa_nil)))) (pv 4) (nomark _))
      (pss_one (ps_ret (pe_tup (pa_cons pe_str pa_nil)))) pss_nil)
      (pss_cons (ps_if (pt_cmpR op_le (pe_callB call_abs (by rfl) T.z_abs (by decide +kernel) (pa_cons (pe_op op_sub (pv 4) (pv 5)) pa_nil)) (pe_glob (v := .int (3)) (by rfl) T.c_MOST_NEAR ⟨_, rfl⟩) (nomark _))
      (pss_one (ps_ret (pe_tup (pa_cons pe_str (pa_cons (pe_op op_sub (pv 4) (pv 5)) pa_nil))))) pss_nil)
      (pss_cons (ps_set (i := 6) sc_step_at.nd rfl (Or.inl rfl) (pe_call G_first_place (hr.mono (by decide)) (by rfl) T.g_first_place T.F_first_place.kp T.b_first_place .nil pass0 (pa_cons (pv 1) (pa_cons (pv 3) (pa_cons (pe_op op_add (pv 4) pe_int) pa_nil)))))
      (pss_one (ps_ret (pe_tup (pa_cons pe_str (pa_cons (pe_op op_sub (pv 4) (pe_callB (call_max2 rfl) (by rfl) T.z_max (by decide +kernel) (pa_cons (pv 2) (pa_cons pe_int pa_nil)))) (pa_cons (pe_op op_sub (pv 6) (pv 4)) pa_nil))))))))))), ?_⟩
    have h1 := stA_le (c := c) hs
    have h2 := stE_le (c := c) hs
    have h3 := fch_le (ab := ab) (c := c) (by omega : st ≤ ab.length)
    refine ⟨_, rfl, _, rfl, c, rfl, _, rfl, _, _, rfl, rfl, l, oth c, st, _, rfl, by omega, by omega, ?_⟩
    refine ⟨_, rfl, _, rfl, _, rfl, ab, st, c, _, rfl, rfl, by omega, by omega, ?_⟩
    refine ⟨_, rfl, _, rfl, _, rfl, _, _, rfl, rfl, ab, c, fch ab st c + 1, _, rfl, rfl, by omega, _, rfl, _, _, rfl, rfl, _, rfl, ?_⟩
    show if decide ((stC ab st c : Int) < (stA l st c : Int)) = true then _ else _
    refine ite2 (fun e => ?_) (fun e => ?_)
    · have e : stC ab st c < stA l st c := by have := of_decide_eq_true e; omega
      have es : stepAt ab l st c = .passed := if_pos e
      rw [es] at q
      exact ⟨(by show 1 ≤ sizeLine; decide), fun p hp => q p _ hp (same_new hp) upd_same⟩
    · have e : ¬ stC ab st c < stA l st c := fun z => e (decide_eq_true (by omega))
      refine ⟨_, rfl, _, rfl, _, _, rfl, rfl, _, rfl, _, _, rfl, rfl, _, rfl, ?_⟩
      show if decide ((if (stA l st c : Int) - (fch ab st c : Int) < 0 then -((stA l st c : Int) - (fch ab st c : Int)) else (stA l st c : Int) - (fch ab st c : Int)) ≤ 3) = true then _ else _
      refine ite2 (fun e2 => ?_) (fun e2 => ?_)
      · have e2 : NearP ab l st c := by
          have := of_decide_eq_true e2
          unfold NearP
          split at this <;> omega
        have es : stepAt ab l st c = .near ((stA l st c : Int) - (fch ab st c : Int)) := by
          unfold stepAt
          rw [if_neg e, if_pos e2]
        rw [es] at q
        exact ⟨_, rfl, _, rfl, _, _, rfl, rfl, (by show 2 ≤ sizeLine; decide), fun p hp => q p _ hp (same_new hp) upd_same⟩
      · have e2 : ¬ NearP ab l st c := fun z => e2 (decide_eq_true (by
          unfold NearP at z
          split <;> omega))
        have es : stepAt ab l st c = .plain (stA l st c - (st - 1)) (stE l st c - stA l st c) := by
          unfold stepAt
          rw [if_neg e, if_neg e2]
        rw [es] at q
        refine ⟨_, rfl, _, rfl, _, rfl, _, _, rfl, rfl, l, c, stA l st c + 1, _, rfl, rfl, by omega, ?_⟩
        refine ⟨_, rfl, _, rfl, _, _, rfl, _, _, rfl, rfl, _, rfl, _, rfl, _, _, rfl, rfl, (by show 3 ≤ sizeLine; decide), fun p hp => q p _ hp (same_new hp) ?_⟩
        rw [upd_same]
        have ea : (stA l st c : Int) - (if (0 : Int) > (st : Int) - 1 then (0 : Int) else (st : Int) - 1) = ((stA l st c - (st - 1) : Nat) : Int) := by
          split <;> omega
        have eb : (stE l st c : Int) - (stA l st c : Int) = ((stE l st c - stA l st c : Nat) : Int) := by omega
        show some (HO.tup [.str (Str.ofString "plain"), .int ((stA l st c : Int) - (if (0 : Int) > (st : Int) - 1 then (0 : Int) else (st : Int) - 1)), .int ((stE l st c : Int) - (stA l st c : Int))]) = _
        rw [ea, eb]
        rfl
def spLed (K : PySem.W.Frag) : Sp := fun vs H Q _ => ∃ (ab : List Nat) (s c : Nat) (x : Int) (a : Addr) (st : Stp), vs = [.str (sOf ab), .int x, .str (sOf [c]), .ref a] ∧ x = (s : Int) - 1 ∧ s ≤ ab.length ∧ ab.length ≤ 1000 ∧ SqT K H a (stV st) ∧ Q (.int (ledT ab s c st)) H
theorem ok_led_to {A : Ad} (T : Txt w K mg base A) : FnOk P w K mg base CX0 3 A.a_led_to A.d_led_to P_led_to (spLed K) := by
  have G_first_change := ok_first_change (P := P) (w := w) (base := base) T
  have G_first_place := ok_first_place (P := P) (w := w) (base := base) T
  refine T.F_led_to.ok sc_led_to (fun vs H Q E h => ?_) (fun cdv Ar outer s H vs Q E hr h => ?_)
  · obtain ⟨ab, s, c, x, a, st, rfl, _⟩ := h
    rfl
  · obtain ⟨ab, sp, c, _, a, st, rfl, rfl, hs, la, ha, q⟩ := h
    refine ⟨_, (pss_cons (ps_if (pt_cmpR op_eq (pe_ix (r := rIxT K) ix_tup (pv 3) pe_int (fun _ _ => rfl)) pe_str (nomark _))
      (pss_one (ps_ret (pe_op op_add (pe_op op_add (pe_callB (call_max2 rfl) (by rfl) T.z_max (by decide +kernel) (pa_cons (pv 1) (pa_cons pe_int pa_nil))) (pe_ix (r := rIxT K) ix_tup (pv 3) pe_int (fun _ _ => rfl))) (pe_ix (r := rIxT K) ix_tup (pv 3) pe_int (fun _ _ => rfl))))) pss_nil)
      (pss_cons (ps_set (i := 4) sc_led_to.nd rfl (Or.inl rfl) (pe_call G_first_change (hr.mono (by decide)) (by rfl) T.g_first_change T.F_first_change.kp T.b_first_change .nil pass0 (pa_cons (pv 0) (pa_cons (pv 1) (pa_cons (pv 2) pa_nil)))))
      (pss_cons (ps_if (pt_cmpR op_eq (pe_ix (r := rIxT K) ix_tup (pv 3) pe_int (fun _ _ => rfl)) pe_str (nomark _))
      (pss_one (ps_ret (pe_op op_add (pv 4) (pe_ix (r := rIxT K) ix_tup (pv 3) pe_int (fun _ _ => rfl))))) pss_nil)
      (pss_one (ps_ret (pe_call G_first_place (hr.mono (by decide)) (by rfl) T.g_first_place T.F_first_place.kp T.b_first_place .nil pass0 (pa_cons (pv 0) (pa_cons (pv 2) (pa_cons (pe_op op_add (pv 4) pe_int) pa_nil))))))))), ?_⟩
    have h3 := fch_le (c := c) hs
    cases st with
    | plain x y =>
      refine ⟨_, rfl, _, _, _, _, rfl, rfl, ha, atI_nat (j := 0) rfl, rfl, _, rfl, iteD1 rfl ?_⟩
      refine ⟨_, rfl, _, _, rfl, _, rfl, _, _, _, _, rfl, rfl, ha, atI_nat (j := 1) rfl, _, _, rfl, rfl, _, rfl, _, _, _, _, rfl, rfl, ha, atI_nat (j := 2) rfl, _, _, rfl, rfl, ?_⟩
      have ea : (if (0 : Int) > (sp : Int) - 1 then (0 : Int) else (sp : Int) - 1) = ((sp - 1 : Nat) : Int) := by split <;> omega
      show Q (.int ((if (0 : Int) > (sp : Int) - 1 then (0 : Int) else (sp : Int) - 1) + (x : Int) + (y : Int))) H
      rw [ea]
      exact q
    | near d =>
      refine ⟨_, rfl, _, _, _, _, rfl, rfl, ha, atI_nat (j := 0) rfl, rfl, _, rfl, iteD0 (ne_word' (by decide)) ?_⟩
      refine ⟨_, rfl, _, rfl, _, rfl, ab, sp, c, _, rfl, rfl, hs, la, ?_⟩
      refine ⟨_, rfl, _, _, _, _, rfl, rfl, ha, atI_nat (j := 0) rfl, rfl, _, rfl, iteD1 rfl ?_⟩
      exact ⟨_, rfl, _, rfl, _, _, _, _, rfl, rfl, ha, atI_nat (j := 1) rfl, _, _, rfl, rfl, q⟩
    | passed =>
      refine ⟨_, rfl, _, _, _, _, rfl, rfl, ha, atI_nat (j := 0) rfl, rfl, _, rfl, iteD0 (ne_word' (by decide)) ?_⟩
      refine ⟨_, rfl, _, rfl, _, rfl, ab, sp, c, _, rfl, rfl, hs, la, ?_⟩
      refine ⟨_, rfl, _, _, _, _, rfl, rfl, ha, atI_nat (j := 0) rfl, rfl, _, rfl, iteD0 (ne_word' (by decide)) ?_⟩
      exact ⟨_, rfl, _, rfl, _, rfl, _, _, rfl, rfl, ab, c, fch ab sp c + 1, _, rfl, rfl, by omega, q⟩
def spColB (K : PySem.W.Frag) : Sp := fun vs H Q _ => ∃ (c : Nat) (a : Addr) (st : Stp), vs = [.str (sOf [c]), .ref a] ∧ SqT K H a (stV st) ∧ Q (.str (sOf [colB c st])) H
theorem ok_colour_behind {A : Ad} (T : Txt w K mg base A) : FnOk P w K mg base CX0 2 A.a_colour_behind A.d_colour_behind P_colour_behind (spColB K) := by
  have G_other_cell := ok_other_cell (P := P) (w := w) (base := base) T
  refine T.F_colour_behind.ok sc_colour_behind (fun vs H Q E h => ?_) (fun cdv Ar outer s H vs Q E hr h => ?_)
  · obtain ⟨c, a, st, rfl, _⟩ := h
    rfl
  · obtain ⟨c, a, st, rfl, ha, q⟩ := h
    refine ⟨_, (pss_one (ps_ret (pe_ifExp (pt_cmpR op_eq (pe_ix (r := rIxT K) ix_tup (pv 1) pe_int (fun _ _ => rfl)) pe_str (nomark _)) (pe_call G_other_cell (hr.mono (by decide)) (by rfl) T.g_other_cell T.F_other_cell.kp T.b_other_cell .nil pass0 (pa_cons (pv 0) pa_nil)) (pv 0)))), ?_⟩
    cases st with
    | plain x y =>
      exact ⟨_, rfl, _, _, _, _, rfl, rfl, ha, atI_nat (j := 0) rfl, rfl, _, rfl, iteD0 (ne_word' (by decide)) ⟨_, rfl, q⟩⟩
    | near d =>
      exact ⟨_, rfl, _, _, _, _, rfl, rfl, ha, atI_nat (j := 0) rfl, rfl, _, rfl, iteD1 rfl ⟨_, rfl, c, rfl, q⟩⟩
    | passed =>
      exact ⟨_, rfl, _, _, _, _, rfl, rfl, ha, atI_nat (j := 0) rfl, rfl, _, rfl, iteD0 (ne_word' (by decide)) ⟨_, rfl, q⟩⟩

--SPLIT
def StW (ab l : List Nat) (p : Addr) (H : Hp) (m : Nat) (σ : L2.St) (H' : Hp) : Prop := ∃ (s c : Nat) (ws : List V) (done : List (Stp × Nat)) (y5 : Option V), σ = [some (.str (sOf ab)), some (.str (sOf l)), some (.ref p), some (.int ((s : Int) - 1)), some (.str (sOf [c])), y5] ∧ m = l.length + 1 - s ∧ s ≤ l.length + 1 ∧ Cell c ∧ Same H H' ∧ H' p = some (.lst ws) ∧ TupsAt stV H' ws (done.map (·.1)) ∧ done ++ stepsAt ab l s c = stepsL ab l
def spSteps : Sp := fun vs H Q _ => ∃ (ab l : List Nat), vs = [.str (sOf ab), .str (sOf l)] ∧ ab.length = l.length ∧ l.length ≤ 1000 ∧ ∀ p ws H', H p = none → Same H H' → H' p = some (.lst ws) → TupsAt stV H' ws ((stepsL ab l).map (·.1)) → Q (.ref p) H'
theorem ok_above_steps {A : Ad} (T : Txt w K mg base A) : FnOk P w K mg base CX0 4 A.a_above_steps A.d_above_steps P_above_steps spSteps := by
  have G_step_at := ok_step_at (P := P) (w := w) (base := base) T
  have G_led_to := ok_led_to (P := P) (w := w) (base := base) T
  have G_colour_behind := ok_colour_behind (P := P) (w := w) (base := base) T
  refine T.F_above_steps.ok sc_above_steps (fun vs H Q E h => ?_) (fun cdv Ar outer s H vs Q E hr h => ?_)
  · obtain ⟨ab, l, rfl, _⟩ := h
    rfl
  · obtain ⟨ab, l, rfl, el, ll, q⟩ := h
    refine ⟨_, (pss_cons (ps_set (i := 2) sc_above_steps.nd rfl (Or.inl rfl) (pe_lst pa_nil))
      (pss_cons (ps_par (i := 3) (j := 4) (by rfl) sc_above_steps.nd rfl rfl (by decide) rfl rfl (pa_cons (pe_glob (v := .int (-1)) (by rfl) T.c_AHEAD ⟨_, rfl⟩) (pa_cons (pe_glob (v := .str (Str.ofString ".")) (by rfl) T.c_LIGHT ⟨_, rfl⟩) pa_nil)) (by rfl))
      (pss_cons (ps_while PassesOwn.never (pt_cmpR op_lt (pv 3) (pe_callB call_len_str (by rfl) T.z_len PySem.boot_len (pa_cons (pv 1) pa_nil)) (nomark _))
      (pss_cons (ps_set (i := 5) sc_above_steps.nd rfl (Or.inl rfl) (pe_call G_step_at (hr.mono (by decide)) (by rfl) T.g_step_at T.F_step_at.kp T.b_step_at .nil pass0 (pa_cons (pv 0) (pa_cons (pv 1) (pa_cons (pv 3) (pa_cons (pv 4) pa_nil))))))
      (pss_cons (ps_expr (pe_bm PySem.F.plainAttrs_list PySem.F.slot_list_append PySem.F.type_list_append mt_append (pv 2) (pa_cons (pv 5) pa_nil)))
      (pss_cons (ps_set (i := 3) sc_above_steps.nd rfl (Or.inl rfl) (pe_call G_led_to (hr.mono (by decide)) (by rfl) T.g_led_to T.F_led_to.kp T.b_led_to .nil pass0 (pa_cons (pv 0) (pa_cons (pv 3) (pa_cons (pv 4) (pa_cons (pv 5) pa_nil))))))
      (pss_one (ps_set (i := 4) sc_above_steps.nd rfl (Or.inl rfl) (pe_call G_colour_behind (hr.mono (by decide)) (by rfl) T.g_colour_behind T.F_colour_behind.kp T.b_colour_behind .nil pass0 (pa_cons (pv 4) (pa_cons (pv 5) pa_nil)))))))))
      (pss_one (ps_ret (pv 2)))))), ?_⟩
    have hl : (sOf l).length ≤ sizeLine := by
      rw [sOf_len]
      exact sz (by omega)
    refine ⟨(by show 0 ≤ sizeLine; decide), fun p hp => ?_⟩
    refine ⟨_, _, rfl, StW ab l p H, ⟨_, 0, 46, [], [], none, rfl, rfl, by omega, .inl rfl, same_new hp, upd_same, trivial, rfl⟩, ?_⟩
    rintro m σ H1 ⟨s, c, ws, done, y5, rfl, rfl, hs1, hc, sm, hp1, ht, hd⟩
    refine ⟨_, rfl, _, rfl, _, rfl, hl, _, _, rfl, rfl, _, rfl, ?_⟩
    refine ite2 (fun e => ?_) (fun e => ?_)
    · have hs : s ≤ l.length := by
        have := of_decide_eq_true e
        rw [sOf_len] at this
        omega
      have lw := ledN_le (c := c) hs el
      rw [stepsAt_go el hs] at hd
      have dl : done.length ≤ l.length := by
        have := congrArg List.length hd
        have h2 := stepsF_len ab l (l.length + 1) 0 46
        rw [List.length_append, List.length_cons] at this
        unfold stepsL at this
        omega
      refine ⟨fun σ' H' => ∃ m', m' < l.length + 1 - s ∧ StW ab l p H m' σ' H', fun σ' H' h => h, ?_⟩
      refine ⟨_, rfl, _, rfl, _, rfl, _, rfl, ab, l, s, c, _, rfl, rfl, hs, el, ll, fun t H2 nt s2 h2 => ?_⟩
      have hp2 := s2 _ _ hp1
      refine ⟨_, rfl, .inl ⟨rfl, _, SqL.of hp2⟩, _, rfl, p, _, _, rfl, rfl, hp2, ?_, ?_⟩
      · rw [ht.len, List.length_map]
        exact szl (by omega)
      have ntp : t ≠ p := (ne_of_none hp1 nt).symm
      have ht3 : upd H2 p (.lst (ws ++ [.ref t])) t = some (.tup (stV (stepAt ab l s c))) := by
        rw [upd_ne ntp]
        exact h2
      refine ⟨_, rfl, _, rfl, _, rfl, _, rfl, ab, s, c, _, t, _, rfl, rfl, by omega, by omega, SqT.of ht3, ?_⟩
      rw [ledT_step hs]
      refine ⟨_, rfl, _, rfl, c, t, _, rfl, SqT.of ht3, ?_⟩
      refine ⟨l.length + 1 - (ledN ab l s c + 1), by omega, ledN ab l s c + 1, colB c (stepAt ab l s c), ws ++ [.ref t], done ++ [(stepAt ab l s c, c)], some (.ref t), ?_, rfl, by omega, colB_cell hc _, Same.mut (sm.trans s2) hp, upd_same, ?_, ?_⟩
      · show [_, _, _, some (V.int (ledN ab l s c : Int)), _, _] = _
        rw [show (((ledN ab l s c + 1 : Nat) : Int) - 1) = (ledN ab l s c : Int) by omega]
      · rw [List.map_append]
        refine TupsAt.app (ws := [.ref t]) (ys := [stepAt ab l s c]) (And.intro ⟨t, rfl, ht3⟩ trivial) (ht.mono fun a xs z => ?_)
        have na : a ≠ p := fun y => by
          rw [y, hp1] at z
          cases z
        rw [upd_ne na]
        exact s2 _ _ z
      · rw [List.append_assoc]
        exact hd
    · have hs : l.length < s := by
        have : ¬ ((s : Int) - 1 < ((sOf l).length : Int)) := fun z => e (decide_eq_true z)
        rw [sOf_len] at this
        omega
      rw [stepsAt_end hs, List.append_nil] at hd
      rw [hd] at ht
      exact ⟨_, rfl, q p ws H1 hp sm hp1 ht⟩

/-! ### the bits of a step -/
def nearIx (d : Int) : Nat := if d = 0 then 0 else if d = 1 then 1 else if d = -1 then 2 else if d = 2 then 5 else if d = -2 then 6 else if d = 3 then 7 else 8
def dOf (c : Nat) : Bool := decide (c = 35)
def stpB (c : Nat) : Stp → List Nat
  | .passed => thirdW.getD 4 []
  | .near d => thirdW.getD (nearIx d) []
  | .plain a b => thirdW.getD 3 [] ++ runT (tabW (dOf c)) a ++ runT (tabW (!dOf c)) b
def okStep (m : Nat) : Stp → Prop
  | .passed => True
  | .near d => -3 ≤ d ∧ d ≤ 3
  | .plain a b => a ≤ m ∧ b ≤ m
theorem okStep.mono {m n : Nat} {st : Stp} (h : okStep m st) (e : m ≤ n) : okStep n st := by
  cases st with
  | passed => exact trivial
  | near d => exact h
  | plain a b => exact ⟨Nat.le_trans h.1 e, Nat.le_trans h.2 e⟩
theorem third_len : thirdW.length = 9 := by decide +kernel
theorem third_lens : ∀ w ∈ thirdW, w.length ≤ 12 := by decide +kernel
theorem third_at {j : Nat} (h : j < 9) : (thirdW.map sV)[j]? = some (sV (thirdW.getD j [])) ∧ (thirdW.getD j []).length ≤ 12 := by
  have h2 : j < thirdW.length := by rw [third_len]; exact h
  rw [List.getElem?_map, List.getD_eq_getElem?_getD, List.getElem?_eq_getElem h2]
  exact ⟨rfl, third_lens _ (List.getElem_mem h2)⟩
theorem nearIx_lt (d : Int) : nearIx d < 9 := by
  unfold nearIx
  repeat' split
  all_goals omega
theorem stpB_len {c : Nat} {st : Stp} (h : okStep 64 st) : (stpB c st).length ≤ 60 := by
  cases st with
  | passed =>
    have := (third_at (j := 4) (by decide)).2
    show (thirdW.getD 4 []).length ≤ 60
    omega
  | near d =>
    have := (third_at (nearIx_lt d)).2
    show (thirdW.getD (nearIx d) []).length ≤ 60
    omega
  | plain a b =>
    have t := (third_at (j := 3) (by decide)).2
    have h1 := runT_len (d := dOf c) h.1
    have h2 := runT_len (d := !dOf c) h.2
    show (thirdW.getD 3 [] ++ runT (tabW (dOf c)) a ++ runT (tabW (!dOf c)) b).length ≤ 60
    rw [List.length_append, List.length_append]
    omega
theorem cell_dOf {c : Nat} (h : Cell c) : cellC (dOf c) = c := by
  rcases h with rfl | rfl <;> rfl
theorem cell_str {c : Nat} (h : Cell c) : sOf [c] = cellS (dOf c) := by rw [cellS_eq, cell_dOf h]
theorem oth_str {c : Nat} (h : Cell c) : sOf [oth c] = cellS (!dOf c) := by rw [cellS_eq, ← oth_cellC, cell_dOf h]
def stepsD : List PyData := [.tuple [.str (Str.ofString "near"), .int 0], .tuple [.str (Str.ofString "near"), .int 1], .tuple [.str (Str.ofString "near"), .int (-1)], .tuple [.str (Str.ofString "plain")], .tuple [.str (Str.ofString "passed")], .tuple [.str (Str.ofString "near"), .int 2], .tuple [.str (Str.ofString "near"), .int (-2)], .tuple [.str (Str.ofString "near"), .int 3], .tuple [.str (Str.ofString "near"), .int (-3)]]
def ixOk (d : PyData) (j : Nat) : Bool := (match stepsD[j]? with | some z => PyData.eqv z d | none => false) && (stepsD.take j).all (fun z => !PyData.eqv z d)
theorem ixOk_spec {d : PyData} {j : Nat} (h : ixOk d j = true) : ∃ z, stepsD[j]? = some z ∧ PyData.eqv z d = true ∧ ∀ (m : Nat) (z' : PyData), m < j → stepsD[m]? = some z' → PyData.eqv z' d = false := by
  unfold ixOk at h
  rw [Bool.and_eq_true] at h
  obtain ⟨h1, h2⟩ := h
  cases e : stepsD[j]? with
  | none =>
    rw [e] at h1
    cases h1
  | some z =>
    rw [e] at h1
    refine ⟨z, rfl, h1, fun m z' hm hz => ?_⟩
    have := List.all_eq_true.mp h2 z' (List.mem_of_getElem? (i := m) (by rw [List.getElem?_take_of_lt hm]; exact hz))
    simpa using this
theorem stepsD_shaped : SeqAt.shaped (.tuple stepsD) = true := by decide +kernel
def spStepBits (K : PySem.W.Frag) : Sp := fun vs H Q _ => ∃ (wq tq : Addr) (c : Nat) (a : Addr) (st : Stp) (m : Nat), vs = [.ref wq, .ref tq, .str (sOf [c]), .ref a] ∧ H wq = some (.lst (thirdW.map sV)) ∧ TabD H tq m ∧ Cell c ∧ SqT K H a (stV st) ∧ okStep m st ∧ m ≤ 64 ∧ ∀ H', Same H H' → Q (.str (sOf (stpB c st))) H'
theorem steps_dp {A : Ad} (T : Txt w K mg base A) (H : Hp) : Dp K H (.ref A.t_STEPS) (.tuple stepsD) :=
  .tup (T.S_STEPS H) (.cons (.tup (T.S_STEPS_0 H) (.cons (.str _) (.cons (.int _) .nil))) (.cons (.tup (T.S_STEPS_1 H) (.cons (.str _) (.cons (.int _) .nil))) (.cons (.tup (T.S_STEPS_2 H) (.cons (.str _) (.cons (.int _) .nil))) (.cons (.tup (T.S_STEPS_3 H) (.cons (.str _) .nil)) (.cons (.tup (T.S_STEPS_4 H) (.cons (.str _) .nil)) (.cons (.tup (T.S_STEPS_5 H) (.cons (.str _) (.cons (.int _) .nil))) (.cons (.tup (T.S_STEPS_6 H) (.cons (.str _) (.cons (.int _) .nil))) (.cons (.tup (T.S_STEPS_7 H) (.cons (.str _) (.cons (.int _) .nil))) (.cons (.tup (T.S_STEPS_8 H) (.cons (.str _) (.cons (.int _) .nil))) .nil)))))))))
theorem near_ok {d : Int} (h : -3 ≤ d ∧ d ≤ 3) : ixOk (.tuple [.str (Str.ofString "near"), .int d]) (nearIx d) = true ∧ SeqAt.shaped (.tuple [.str (Str.ofString "near"), .int d]) = true := by
  have : d = -3 ∨ d = -2 ∨ d = -1 ∨ d = 0 ∨ d = 1 ∨ d = 2 ∨ d = 3 := by omega
  rcases this with rfl | rfl | rfl | rfl | rfl | rfl | rfl <;> exact ⟨by decide +kernel, by decide +kernel⟩
theorem ok_step_bits {A : Ad} (T : Txt w K mg base A) : FnOk P w K mg base CX0 2 A.a_step_bits A.d_step_bits P_step_bits (spStepBits K) := by
  have G_other_cell := ok_other_cell (P := P) (w := w) (base := base) T
  refine T.F_step_bits.ok sc_step_bits (fun vs H Q E h => ?_) (fun cdv Ar outer s H vs Q E hr h => ?_)
  · obtain ⟨wq, tq, c, a, st, m, rfl, _⟩ := h
    rfl
  · obtain ⟨wq, tq, c, a, st, m, rfl, hw, hTD, hc, ha, ok, m64, q⟩ := h
    refine ⟨_, (pss_cons (ps_if (pt_cmpR op_ne (pe_ix (r := rIxT K) ix_tup (pv 3) pe_int (fun _ _ => rfl)) pe_str (nomark _))
      (pss_one (ps_ret (pe_ix (r := rIxL K) ix_list (pv 0) (pe_bm PySem.F.plainAttrs_tuple PySem.F.slot_tuple_index PySem.F.type_tuple_index (mt_tindexD (u65 hr)) (pe_glob (v := .ref A.t_STEPS) (by rfl) T.c_STEPS rfl) (pa_cons (pv 3) pa_nil)) (fun _ _ => rfl)))) pss_nil)
      (pss_cons (ps_set (i := 4) sc_step_bits.nd rfl (Or.inl rfl) (pe_ix (r := rIxL K) ix_list (pv 0) (pe_bm PySem.F.plainAttrs_tuple PySem.F.slot_tuple_index PySem.F.type_tuple_index (mt_tindexD (u65 hr)) (pe_glob (v := .ref A.t_STEPS) (by rfl) T.c_STEPS rfl) (pa_cons (pe_tup (pa_cons pe_str pa_nil)) pa_nil)) (fun _ _ => rfl)))
      (pss_one (ps_ret (pe_op op_add_str (pe_op op_add_str (pv 4) (pe_ix (r := rIxL K) ix_list (pe_dget (hu_of hr) (pv 1) (pv 2) (fun _ _ => rfl)) (pe_ix (r := rIxT K) ix_tup (pv 3) pe_int (fun _ _ => rfl)) (fun _ _ => rfl))) (pe_ix (r := rIxL K) ix_list (pe_dget (hu_of hr) (pv 1) (pe_call G_other_cell (hr.mono (by decide)) (by rfl) T.g_other_cell T.F_other_cell.kp T.b_other_cell .nil pass0 (pa_cons (pv 2) pa_nil)) (fun _ _ => rfl)) (pe_ix (r := rIxT K) ix_tup (pv 3) pe_int (fun _ _ => rfl)) (fun _ _ => rfl))))))), ?_⟩
    cases st with
    | passed =>
      obtain ⟨z, hz, hz2, hz3⟩ := ixOk_spec (d := .tuple [.str (Str.ofString "passed")]) (j := 4) (by decide +kernel)
      refine ⟨_, rfl, _, _, _, _, rfl, rfl, ha, atI_nat (j := 0) rfl, rfl, _, rfl, iteN1 (ne_word' (by decide)) ?_⟩
      refine ⟨_, rfl, .inr (.inl ⟨rfl, T.Y_STEPS⟩), _, rfl, A.t_STEPS, _, _, stepsD, 4, z, rfl, rfl, steps_dp T H, .tup ha (.cons (.str _) .nil), stepsD_shaped, (by decide +kernel), hz, hz2, hz3, ?_⟩
      refine ⟨_, _, _, _, rfl, rfl, SqL.of hw, atI_nat (third_at (j := 4) (by decide)).1, ?_⟩
      exact q H (Same.refl H)
    | near d =>
      have no := near_ok ok
      obtain ⟨z, hz, hz2, hz3⟩ := ixOk_spec no.1
      refine ⟨_, rfl, _, _, _, _, rfl, rfl, ha, atI_nat (j := 0) rfl, rfl, _, rfl, iteN1 (ne_word' (by decide)) ?_⟩
      refine ⟨_, rfl, .inr (.inl ⟨rfl, T.Y_STEPS⟩), _, rfl, A.t_STEPS, _, _, stepsD, nearIx d, z, rfl, rfl, steps_dp T H, .tup ha (.cons (.str _) (.cons (.int _) .nil)), stepsD_shaped, no.2, hz, hz2, hz3, ?_⟩
      refine ⟨_, _, _, _, rfl, rfl, SqL.of hw, atI_nat (third_at (nearIx_lt d)).1, ?_⟩
      exact q H (Same.refl H)
    | plain x y =>
      obtain ⟨z, hz, hz2, hz3⟩ := ixOk_spec (d := .tuple [.str (Str.ofString "plain")]) (j := 3) (by decide +kernel)
      refine ⟨_, rfl, _, _, _, _, rfl, rfl, ha, atI_nat (j := 0) rfl, rfl, _, rfl, iteN0 rfl ?_⟩
      refine ⟨_, rfl, .inr (.inl ⟨rfl, T.Y_STEPS⟩), (by show 1 ≤ sizeLine; decide), fun t nt => ?_⟩
      have s1 := same_new (o := .tup [.str (Str.ofString "plain")]) nt
      refine ⟨A.t_STEPS, _, _, stepsD, 3, z, rfl, rfl, steps_dp T _, .tup (SqT.of upd_same) (.cons (.str _) .nil), stepsD_shaped, (by decide +kernel), hz, hz2, hz3, ?_⟩
      refine ⟨_, _, _, _, rfl, rfl, SqL.of (s1 _ _ hw), atI_nat (third_at (j := 3) (by decide)).1, ?_⟩
      have hTD1 := hTD.ext (extN_of s1)
      have ha1 := same_t s1 ha
      obtain ⟨q0, d0, g0⟩ := hTD1.get (dOf c)
      obtain ⟨q1, d1, g1⟩ := hTD1.get (!dOf c)
      have r0 := runT_len (d := dOf c) (Nat.le_trans ok.1 m64)
      have r1 := runT_len (d := !dOf c) (Nat.le_trans ok.2 m64)
      have t3 := (third_at (j := 3) (by decide)).2
      refine ⟨_, rfl, _, rfl, _, rfl, _, _, rfl, (by rw [cell_str hc]; exact d0), _, rfl, _, _, _, _, rfl, rfl, ha1, atI_nat (j := 1) rfl, _, _, _, _, rfl, rfl, SqL.of g0, atI_nat (rtab_at ok.1), _, _, rfl, rfl, ?_, _, rfl, _, rfl, c, rfl, _, _, rfl, (by rw [oth_str hc]; exact d1), _, rfl, _, _, _, _, rfl, rfl, ha1, atI_nat (j := 2) rfl, _, _, _, _, rfl, rfl, SqL.of g1, atI_nat (rtab_at ok.2), _, _, rfl, rfl, ?_, ?_⟩
      · rw [sOf_len, sOf_len]
        exact sz (by omega)
      · rw [sOf_app, sOf_len, sOf_len, List.length_append]
        exact sz (by omega)
      · rw [sOf_app, sOf_app]
        exact q _ s1

/-! ### the telling by the row above -/
def aboveB (ab l : List Nat) : List Nat := ((stepsL ab l).map fun x => stpB x.2 x.1).flatten
theorem stepAt_ok {ab l : List Nat} {s c : Nat} (h : s ≤ l.length) : okStep l.length (stepAt ab l s c) := by
  have h1 := stA_le (c := c) h
  have h2 := stE_le (c := c) h
  unfold stepAt
  split
  · exact trivial
  · split
    · rename_i z
      unfold NearP at z
      exact ⟨by omega, by omega⟩
    · exact ⟨by omega, by omega⟩
theorem stepsF_ok {ab l : List Nat} (e : ab.length = l.length) : ∀ (f s c : Nat), Cell c → ∀ x ∈ stepsF ab l f s c, okStep l.length x.1 ∧ Cell x.2
  | 0, _, _, _, _, h => nomatch h
  | f + 1, s, c, hc, x, h => by
    unfold stepsF at h
    split at h
    · rename_i hs
      rcases List.mem_cons.mp h with z | z
      · rw [z]
        exact ⟨stepAt_ok hs, hc⟩
      · exact stepsF_ok e f _ _ (colB_cell hc _) x z
    · cases h
theorem stepsL_ok {ab l : List Nat} (e : ab.length = l.length) : ∀ x ∈ stepsL ab l, okStep l.length x.1 ∧ Cell x.2 := stepsF_ok e _ _ _ (.inl rfl)
theorem flat_le (n : Nat) : ∀ ls : List (List Nat), (∀ l ∈ ls, l.length ≤ n) → ls.flatten.length ≤ n * ls.length
  | [], _ => Nat.zero_le _
  | l :: r, h => by
    have h1 := flat_le n r fun x hx => h x (List.mem_cons_of_mem _ hx)
    have h2 := h l (List.mem_cons_self ..)
    rw [List.flatten_cons, List.length_append, List.length_cons, Nat.mul_succ]
    omega
theorem aboveB_part {ab l : List Nat} (e : ab.length = l.length) (h64 : l.length ≤ 64) (i : Nat) : (((stepsL ab l).take i).map fun x => stpB x.2 x.1).flatten.length ≤ 3900 := by
  have h1 := flat_le 60 (((stepsL ab l).take i).map fun x => stpB x.2 x.1) (fun z hz => by
    obtain ⟨x, hx, rfl⟩ := List.mem_map.mp hz
    have := stepsL_ok e x (List.mem_of_mem_take hx)
    exact stpB_len (okStep.mono this.1 h64))
  have h2 := stepsF_len ab l (l.length + 1) 0 46
  rw [List.length_map, List.length_take] at h1
  unfold stepsL at h1 ⊢
  omega
theorem aboveB_len {ab l : List Nat} (e : ab.length = l.length) (h64 : l.length ≤ 64) : (aboveB ab l).length ≤ 3900 := by
  have := aboveB_part e h64 (stepsL ab l).length
  rw [List.take_length] at this
  exact this
def spABits (p : Addr) : Sp := fun vs H Q _ => ∃ (ab l : List Nat), vs = [.str (sOf ab), .str (sOf l)] ∧ ab.length = l.length ∧ l.length ≤ 64 ∧ LamX.Tabs (TT p) H ∧ ∀ H', LamX.ExtN H H' → LamX.Tabs (TT p) H' → Q (.str (sOf (aboveB ab l))) H'
theorem ok_above_bits {A : Ad} (T : Txt w K mg base A) : FnOk P w K mg base CX0 6 A.a_above_bits A.d_above_bits P_above_bits (spABits A.p_making_order) := by
  have G_words_by := ok_words_by (P := P) (w := w) (base := base) T
  have G_run_tables := ok_run_tables (P := P) (w := w) (base := base) T
  have G_above_steps := ok_above_steps (P := P) (w := w) (base := base) T
  have G_colour_behind := ok_colour_behind (P := P) (w := w) (base := base) T
  have G_step_bits := ok_step_bits (P := P) (w := w) (base := base) T
  refine T.F_above_bits.ok sc_above_bits (fun vs H Q E h => ?_) (fun cdv Ar outer s H vs Q E hr h => ?_)
  · obtain ⟨ab, l, rfl, _⟩ := h
    rfl
  · obtain ⟨ab, l, rfl, el, l64, hT, q⟩ := h
    refine ⟨_, (pss_cons (ps_set (i := 2) sc_above_bits.nd rfl (Or.inl rfl) (pe_call G_words_by (hr.mono (by decide)) (by rfl) T.g_words_by T.F_words_by.kp T.b_words_by .nil pass0 (pa_cons (pe_callTy call_list_of (by rfl) T.z_list (by decide +kernel) (pa_cons (pe_glob (v := .ref A.t_LENGTHS_above) (by rfl) T.c_LENGTHS_above rfl) pa_nil)) pa_nil)))
      (pss_cons (ps_set (i := 3) sc_above_bits.nd rfl (Or.inl rfl) (pe_call G_run_tables (hr.mono (by decide)) (by rfl) T.g_run_tables T.F_run_tables.kp T.b_run_tables .nil pass0 (pa_cons (pe_callB call_len_str (by rfl) T.z_len PySem.boot_len (pa_cons (pv 1) pa_nil)) pa_nil)))
      (pss_cons (ps_set (i := 4) sc_above_bits.nd rfl (Or.inl rfl) (pe_lst pa_nil))
      (pss_cons (ps_set (i := 5) sc_above_bits.nd rfl (Or.inl rfl) (pe_glob (v := .str (Str.ofString ".")) (by rfl) T.c_LIGHT ⟨_, rfl⟩))
      (pss_cons (ps_for PassesOwn.never rfl (pi_list (pe_call G_above_steps (hr.mono (by decide)) (by rfl) T.g_above_steps T.F_above_steps.kp T.b_above_steps .nil pass0 (pa_cons (pv 0) (pa_cons (pv 1) pa_nil)))) (pg_name (i := 6) sc_above_bits.nd rfl (Or.inl rfl))
      (pss_cons (ps_expr (pe_bm PySem.F.plainAttrs_list PySem.F.slot_list_append PySem.F.type_list_append mt_append (pv 4) (pa_cons (pe_call G_step_bits (hr.mono (by decide)) (by rfl) T.g_step_bits T.F_step_bits.kp T.b_step_bits .nil pass0 (pa_cons (pv 2) (pa_cons (pv 3) (pa_cons (pv 5) (pa_cons (pv 6) pa_nil))))) pa_nil)))
      (pss_one (ps_set (i := 5) sc_above_bits.nd rfl (Or.inl rfl) (pe_call G_colour_behind (hr.mono (by decide)) (by rfl) T.g_colour_behind T.F_colour_behind.kp T.b_colour_behind .nil pass0 (pa_cons (pv 5) (pa_cons (pv 6) pa_nil)))))))
      (pss_one (ps_ret (pe_join pe_str (pv 4))))))))), ?_⟩
    have hl : (sOf l).length ≤ sizeLine := by
      rw [sOf_len]
      exact sz (by omega)
    refine ⟨_, _, rfl, .inr (T.S_LENGTHS_above H), fun lq hlq => ?_⟩
    have s1 := same_new (o := .lst (nvs thirdL)) hlq
    refine ⟨lq, thirdL, rfl, tabs_same hT s1, upd_same, by decide, by decide, (by decide +kernel), fun wq H1 e1 T1 fw hw => ?_⟩
    refine ⟨_, rfl, _, rfl, hl, l.length, _, rfl, by rw [sOf_len], l64, T1, fun tq H2 e2 T2 hTD => ?_⟩
    have hw2 : H2 wq = some (.lst (thirdW.map sV)) := e2 _ _ hw (fun ps z => by cases z)
    have e02 : LamX.ExtN H H2 := ((extN_of s1).trans e1).trans e2
    refine ⟨(by show 0 ≤ sizeLine; decide), fun pp hpp => ?_⟩
    have s3 := same_new (o := .lst []) hpp
    refine ⟨_, rfl, _, rfl, ab, l, rfl, el, by omega, fun sp ws H4 nsp s4 hsp hts => ?_⟩
    have wl := hts.len
    rw [List.length_map] at wl
    have sl : (stepsL ab l).length ≤ l.length + 1 := stepsF_len ab l (l.length + 1) 0 46
    have npr : sp ≠ pp := (ne_of_none upd_same nsp).symm
    have s24 : Same H2 H4 := s3.trans s4
    refine ⟨sp, rfl, ⟨_, SqL.of hsp⟩, for_list (K := K) (a := sp) (xs := ws) (fun i σ H' => ∃ (parts : List (List Nat)) (s c : Nat) (y6 : Option V), σ = [some (.str (sOf ab)), some (.str (sOf l)), some (.ref wq), some (.ref tq), some (.ref pp), some (.str (sOf [c])), y6] ∧ H' pp = some (.lst (parts.map sV)) ∧ parts.length = i ∧ parts.flatten = (((stepsL ab l).take i).map fun x => stpB x.2 x.1).flatten ∧ Same H2 H' ∧ H' sp = some (.lst ws) ∧ TupsAt stV H' ws ((stepsL ab l).map (·.1)) ∧ (stepsL ab l).drop i = stepsAt ab l s c ∧ Cell c)
      ⟨[], 0, 46, none, rfl, s4 _ _ upd_same, rfl, rfl, s24, hsp, hts, rfl, .inl rfl⟩ (fun i σ H' _ ⟨_, _, _, _, _, _, _, _, _, hh, _⟩ => SqL.of hh) ?_ ?_⟩
    · rintro i x σ H5 hx ⟨parts, s, c, y6, rfl, hp5, lp, fp5, s5, hs5, ht5, hdr, hc⟩
      obtain ⟨st, a, hst, rfl, ha⟩ := ht5.get hx
      rw [List.getElem?_map] at hst
      obtain ⟨x, hxs, rfl⟩ : ∃ x, (stepsL ab l)[i]? = some x ∧ x.1 = st := by
        cases z : (stepsL ab l)[i]? with
        | none =>
          rw [z] at hst
          cases hst
        | some x =>
          rw [z] at hst
          exact ⟨x, rfl, Option.some.inj hst⟩
      have il := (List.getElem?_eq_some_iff.mp hxs).1
      have hs : s ≤ l.length := by
        by_cases z : s ≤ l.length
        · exact z
        · rw [stepsAt_end (by omega)] at hdr
          have := congrArg List.length hdr
          rw [List.length_drop, List.length_nil] at this
          omega
      rw [stepsAt_go el hs, List.drop_eq_getElem_cons il] at hdr
      have hx2 : x = (stepAt ab l s c, c) := by
        rw [List.getElem?_eq_getElem il] at hxs
        exact (Option.some.inj hxs).symm.trans (List.cons.inj hdr).1
      have hdr2 := (List.cons.inj hdr).2
      subst hx2
      have ok := (stepsL_ok el _ (List.mem_of_getElem? hxs)).1
      have hTD5 := hTD.ext (extN_of s5)
      refine ⟨_, rfl, .inl ⟨rfl, _, SqL.of hp5⟩, _, rfl, _, rfl, _, rfl, _, rfl, wq, tq, c, a, stepAt ab l s c, l.length, rfl, s5 _ _ hw2, hTD5, hc, SqT.of ha, ok, l64, fun H6 s6 => ?_⟩
      have hp6 := s6 _ _ hp5
      refine ⟨pp, _, _, rfl, rfl, hp6, ?_, ?_⟩
      · rw [List.length_map]
        exact szl (by omega)
      have na : a ≠ pp := fun z => by
        rw [z, hp5] at ha
        cases ha
      refine ⟨_, rfl, _, rfl, c, a, stepAt ab l s c, rfl, SqT.of (by rw [upd_ne na]; exact s6 _ _ ha), ?_⟩
      have npG : H2 pp = none := hpp
      refine ⟨parts ++ [stpB c (stepAt ab l s c)], ledN ab l s c + 1, colB c (stepAt ab l s c), some (.ref a), rfl, ?_, ?_, ?_, Same.mut (s5.trans s6) npG, ?_, ?_, hdr2, colB_cell hc _⟩
      · rw [upd_same, List.map_append]
        rfl
      · rw [List.length_append, lp]
        rfl
      · rw [flatten_snoc, fp5, take_more _ _ _ hxs, List.map_append, List.flatten_append]
        simp
      · rw [upd_ne npr]
        exact s6 _ _ hs5
      · exact ht5.mono fun b xs z => by
          rw [upd_ne (fun y => by rw [y, hp5] at z; cases z)]
          exact s6 _ _ z
    · rintro σ H5 ⟨parts, s, c, y6, rfl, hp5, lp, fp5, s5, hs5, ht5, hdr, hc⟩
      rw [wl, List.take_length] at fp5
      have pl : parts.flatten.length ≤ 100000 := by
        rw [fp5]
        have := aboveB_len el l64
        unfold aboveB at this
        omega
      refine ⟨⟨_, rfl⟩, _, rfl, _, _, parts.map sOf, rfl, rfl, .inl (SqL.of (by rw [← sV_strs]; exact hp5)), join_flat_size pl, ?_⟩
      rw [join_flat, fp5]
      exact q H5 (e02.trans (extN_of s5)) (tabs_same T2 s5)

/-! ### the bits of a page -/
def markL : List Nat := List.replicate 11 48 ++ [49]
def rowB (rows : List (List Nat)) (k e : Nat) : List Nat := if k % e = 0 then markL ++ 49 :: plainB (rows.getD k []) else markL ++ 48 :: aboveB (rows.getD (k - 1) []) (rows.getD k [])
def padB (l : List Nat) (m : Nat) : List Nat := l ++ List.replicate (m - l.length) 48
def endB : List Nat := (List.replicate 6 (markL ++ [49])).flatten
def pageR (rows : List (List Nat)) (e m i : Nat) : List (List Nat) := (List.range i).map fun k => padB (rowB rows k e) m
def pageB (rows : List (List Nat)) (e m : Nat) : List Nat := (pageR rows e m rows.length).flatten ++ endB
theorem good_at {n k : Nat} {rows : List (List Nat)} (h : Good n rows) (hk : k < rows.length) : (rows.map sV)[k]? = some (sV (rows.getD k [])) ∧ (rows.getD k []).length = n ∧ Row (rows.getD k []) := by
  rw [List.getElem?_map, List.getD_eq_getElem?_getD, List.getElem?_eq_getElem hk]
  exact ⟨rfl, h _ (List.getElem_mem hk)⟩
theorem rowB_len {n k e : Nat} {rows : List (List Nat)} (h : Good n rows) (hk : k < rows.length) (n64 : n ≤ 64) : (rowB rows k e).length ≤ 3913 := by
  have g := good_at h hk
  have g1 := good_at h (show k - 1 < rows.length by omega)
  have ml : markL.length = 12 := rfl
  unfold rowB
  split
  · have := plainB_len g.2.2 (by omega)
    rw [List.length_append, List.length_cons, ml]
    omega
  · have := aboveB_len (ab := rows.getD (k - 1) []) (l := rows.getD k []) (by rw [g.2.1, g1.2.1]) (by omega)
    rw [List.length_append, List.length_cons, ml]
    omega
theorem padB_len {l : List Nat} {m : Nat} (h : l.length ≤ 3913) (hm : m ≤ 240) : (padB l m).length ≤ 3913 := by
  unfold padB
  rw [List.length_append, List.length_replicate]
  omega
theorem pageR_len {n e m i : Nat} {rows : List (List Nat)} (h : Good n rows) (n64 : n ≤ 64) (hm : m ≤ 240) (hi : i ≤ rows.length) (h24 : rows.length ≤ 24) : (pageR rows e m i).flatten.length ≤ 93912 := by
  have := flat_le 3913 (pageR rows e m i) (fun z hz => by
    obtain ⟨k, hk, rfl⟩ := List.mem_map.mp hz
    exact padB_len (rowB_len h (by have := List.mem_range.mp hk; omega) n64) hm)
  have l1 : (pageR rows e m i).length = i := by
    unfold pageR
    rw [List.length_map, List.length_range]
  rw [l1] at this
  omega
theorem endB_len : endB.length = 78 := by decide
def spRowBits (p : Addr) : Sp := fun vs H Q _ => ∃ (pg : Addr) (rows : List (List Nat)) (n k e : Nat) (x y : Int), vs = [.ref pg, .int x, .int y] ∧ x = k ∧ y = e ∧ H pg = some (.tup (rows.map sV)) ∧ Good n rows ∧ 8 ≤ n ∧ n ≤ 64 ∧ k < rows.length ∧ 1 ≤ e ∧ e ≤ 1000 ∧ rows.length ≤ 100 ∧ LamX.Tabs (TT p) H ∧ ∀ H', LamX.ExtN H H' → LamX.Tabs (TT p) H' → Q (.str (sOf (rowB rows k e))) H'
theorem ok_row_bits {A : Ad} (T : Txt w K mg base A) : FnOk P w K mg base CX0 7 A.a_row_bits A.d_row_bits P_row_bits (spRowBits A.p_making_order) := by
  have G_above_bits := ok_above_bits (P := P) (w := w) (base := base) T
  have G_plain_bits := ok_plain_bits (P := P) (w := w) (base := base) T
  refine T.F_row_bits.ok sc_row_bits (fun vs H Q E h => ?_) (fun cdv Ar outer s H vs Q E hr h => ?_)
  · obtain ⟨pg, rows, n, k, e, x, y, rfl, _⟩ := h
    rfl
  · obtain ⟨pg, rows, n, k, e, _, _, rfl, rfl, rfl, hpg, hg, n8, n64, hk, e1, e2, r100, hT, q⟩ := h
    refine ⟨_, (pss_cons (ps_set (i := 3) sc_row_bits.nd rfl (Or.inl rfl) (pe_ix (r := rIxT K) ix_tup (pv 0) (pv 1) (fun _ _ => rfl)))
      (pss_cons (ps_if (pt_cmpR op_eq (pe_op op_mod (pv 1) (pv 2)) pe_int (nomark _))
      (pss_one (ps_ret (pe_op op_add_str (pe_op op_add_str (pe_glob (v := .str (Str.ofString "000000000001")) (by rfl) T.c_MARK ⟨_, rfl⟩) (pe_glob (v := .str (Str.ofString "1")) (by rfl) T.c_PLAIN_TAG ⟨_, rfl⟩)) (pe_call G_plain_bits (hr.mono (by decide)) (by rfl) T.g_plain_bits T.F_plain_bits.kp T.b_plain_bits .nil pass0 (pa_cons (pv 3) pa_nil))))) pss_nil)
      (pss_one (ps_ret (pe_op op_add_str (pe_op op_add_str (pe_glob (v := .str (Str.ofString "000000000001")) (by rfl) T.c_MARK ⟨_, rfl⟩) (pe_glob (v := .str (Str.ofString "0")) (by rfl) T.c_ABOVE_TAG ⟨_, rfl⟩)) (pe_call G_above_bits (hr.mono (by decide)) (by rfl) T.g_above_bits T.F_above_bits.kp T.b_above_bits .nil pass0 (pa_cons (pe_ix (r := rIxT K) ix_tup (pv 0) (pe_op op_sub (pv 1) pe_int) (fun _ _ => rfl)) (pa_cons (pv 3) pa_nil)))))))), ?_⟩
    have g := good_at hg hk
    refine ⟨_, rfl, _, rfl, _, _, _, _, rfl, rfl, SqT.of hpg, atI_nat g.1, ?_⟩
    refine ⟨_, rfl, _, rfl, _, _, rfl, rfl, (by show (0 : Int) < (e : Int); omega), rfl, _, rfl, ?_⟩
    have em : (k : Int) % (e : Int) = ((k % e : Nat) : Int) := by omega
    show if decide (V.int ((k : Int) % (e : Int)) = V.int 0) = true then _ else _
    rw [em]
    by_cases z : k % e = 0
    · refine iteD1 (vint.mpr (by omega)) ?_
      have eB : rowB rows k e = markL ++ 49 :: plainB (rows.getD k []) := if_pos z
      rw [eB] at q
      refine ⟨_, _, rfl, rfl, (by decide), _, rfl, rows.getD k [], rfl, g.2.2, by omega, by omega, hT, fun H1 x1 T1 => ?_⟩
      have pl := plainB_len g.2.2 (by omega)
      refine ⟨_, _, rfl, rfl, ?_, ?_⟩
      · rw [show Str.ofString "000000000001" ++ Str.ofString "1" = sOf (markL ++ [49]) from rfl, sOf_len, sOf_len]
        exact sz (by show 13 + _ ≤ _; omega)
      · rw [show Str.ofString "000000000001" ++ Str.ofString "1" = sOf (markL ++ [49]) from rfl, sOf_app, List.append_assoc]
        exact q H1 x1 T1
    · refine iteD0 (fun y => z (by have := vint.mp y; omega)) ?_
      have eB : rowB rows k e = markL ++ 48 :: aboveB (rows.getD (k - 1) []) (rows.getD k []) := if_neg z
      rw [eB] at q
      have k1 : 1 ≤ k := by
        cases k with
        | zero => exact absurd (Nat.zero_mod e) z
        | succ k => omega
      have g1 := good_at hg (show k - 1 < rows.length by omega)
      refine ⟨_, _, rfl, rfl, (by decide), _, rfl, _, rfl, _, _, rfl, rfl, _, _, _, _, rfl, rfl, SqT.of hpg, (by rw [show (k : Int) - 1 = ((k - 1 : Nat) : Int) by omega]; exact atI_nat g1.1), _, rfl, rows.getD (k - 1) [], rows.getD k [], rfl, by rw [g.2.1, g1.2.1], by omega, hT, fun H1 x1 T1 => ?_⟩
      have pl := aboveB_len (ab := rows.getD (k - 1) []) (l := rows.getD k []) (by rw [g.2.1, g1.2.1]) (by omega)
      refine ⟨_, _, rfl, rfl, ?_, ?_⟩
      · rw [show Str.ofString "000000000001" ++ Str.ofString "0" = sOf (markL ++ [48]) from rfl, sOf_len, sOf_len]
        exact sz (by show 13 + _ ≤ _; omega)
      · rw [show Str.ofString "000000000001" ++ Str.ofString "0" = sOf (markL ++ [48]) from rfl, sOf_app, List.append_assoc]
        exact q H1 x1 T1
def spPageBits (p : Addr) : Sp := fun vs H Q _ => ∃ (pg : Addr) (rows : List (List Nat)) (n e m : Nat) (x y : Int), vs = [.ref pg, .int x, .int y] ∧ x = e ∧ y = m ∧ H pg = some (.tup (rows.map sV)) ∧ Good n rows ∧ 8 ≤ n ∧ n ≤ 64 ∧ rows.length ≤ 24 ∧ 1 ≤ e ∧ e ≤ 1000 ∧ m ≤ 240 ∧ LamX.Tabs (TT p) H ∧ ∀ H', LamX.ExtN H H' → LamX.Tabs (TT p) H' → Q (.str (sOf (pageB rows e m))) H'
theorem ok_page_bits {A : Ad} (T : Txt w K mg base A) : FnOk P w K mg base CX0 8 A.a_page_bits A.d_page_bits P_page_bits (spPageBits A.p_making_order) := by
  have G_row_bits := ok_row_bits (P := P) (w := w) (base := base) T
  refine T.F_page_bits.ok sc_page_bits (fun vs H Q E h => ?_) (fun cdv Ar outer s H vs Q E hr h => ?_)
  · obtain ⟨pg, rows, n, e, m, x, y, rfl, _⟩ := h
    rfl
  · obtain ⟨pg, rows, n, e, m, _, _, rfl, rfl, rfl, hpg, hg, n8, n64, r24, e1, e2, m1, hT, q⟩ := h
    refine ⟨_, (pss_cons (ps_setLc (i := 3) (own := [("number", 4)]) (g := gName 4) (tt := tYes) (by rfl) sc_page_bits.nd rfl rfl (sw_true rfl rfl rfl (by decide +kernel)) (pi_range1 (by rfl) T.z_range (pa_cons (pe_callB (r := fun xs H Q => ∃ p ys, xs = [.ref p] ∧ (SqL K H p ys ∨ SqT K H p ys) ∧ Q (.int ys.length) H) call_len_seq (by rfl) T.z_len PySem.boot_len (pa_cons (pv 0) pa_nil)) pa_nil)) (blkOk_by (own := [("number", 4)]) (N := N_page_bits) (sc := defScope s_page_bits) (by decide +kernel)) (fun _ _ _ _ _ => pg_name (i := 4) sc_page_bits.nd rfl (Or.inl rfl)) (fun _ _ _ _ _ => pts_nil) (fun s5 H5 C5 cl5 fp5 => (pe_bmK (K := K) rfl PySem.F.plainAttrs_str PySem.F.slot_str_ljust PySem.F.type_str_ljust mt_ljustF (pe_call G_row_bits (hr.mono (by decide)) (by rfl) T.g_row_bits T.F_row_bits.kp T.b_row_bits .nil pass0 (pa_cons (pv 0) (pa_cons (pv 4) (pa_cons (pv 1) pa_nil)))) (pa_cons (pv 2) (pa_cons pe_str pa_nil)))))
      (pss_one (ps_ret (pe_op op_add_str (pe_join pe_str (pv 3)) (pe_op op_mulT (pe_op op_add_str (pe_glob (v := .str (Str.ofString "000000000001")) (by rfl) T.c_MARK ⟨_, rfl⟩) pe_str) (pe_glob (v := .int (6)) (by rfl) T.c_END_MARKS ⟨_, rfl⟩)))))), ?_⟩
    have rl : (rows.map sV).length = rows.length := List.length_map ..
    refine ⟨_, rfl, pg, _, rfl, .inr (SqT.of hpg), _, rfl, by omega, by omega, fun D hD => ?_⟩
    rw [show ((rows.map sV).length : Int).toNat = rows.length by omega]
    refine lc_range (lo := 0) (n := rows.length) (fun i H' => LamX.ExtN H H' ∧ LamX.Tabs (TT A.p_making_order) H' ∧ H' D = some (.lst ((pageR rows e m i).map sV))) ⟨extN_of (same_new hD), tabs_same hT (same_new hD), upd_same⟩ ?_ ?_
    · rintro i H1 hi ⟨x1, T1, hD1⟩
      have hpg1 : H1 pg = some (.tup (rows.map sV)) := x1 _ _ hpg (fun ps z => by cases z)
      refine ⟨rfl, _, rfl, _, rfl, _, rfl, pg, rows, n, i, e, _, _, rfl, Int.zero_add _, rfl, hpg1, hg, n8, n64, hi, e1, e2, by omega, T1, fun H2 x2 T2 => ?_⟩
      have hD2 : H2 D = some (.lst ((pageR rows e m i).map sV)) := x2 _ _ hD1 (fun ps z => by cases z)
      refine ⟨rfl, _, rfl, rowB rows i e, _, 48, rfl, rfl, ⟨by omega, by omega⟩, _, hD2, ?_, fun b o hb nt => ?_, ?_, ?_⟩
      · unfold pageR
        rw [List.length_map, List.length_map, List.length_range]
        exact szl (by omega)
      · rw [upd_ne (ne_of_none hb hD)]
        exact x2 _ _ (x1 _ _ hb nt) nt
      · exact tabs_but (q := D) T2 hD2 (fun c o n z => by rw [upd_ne n]; exact z)
      · rw [upd_same]
        unfold pageR
        rw [range_more, List.map_append]
        rfl
    · rintro H1 ⟨x1, T1, hD1⟩
      have pl := pageR_len (e := e) hg n64 m1 (Nat.le_refl _) r24
      refine ⟨⟨_, rfl⟩, _, rfl, _, _, (pageR rows e m rows.length).map sOf, rfl, rfl, .inl (SqL.of (by rw [← sV_strs]; exact hD1)), join_flat_size (by omega), _, _, rfl, rfl, (by decide), markL ++ [49], _, rfl, rfl, ⟨by decide, by decide, by decide⟩, ?_⟩
      rw [join_flat]
      refine ⟨_, _, rfl, rfl, ?_, ?_⟩
      · rw [sOf_len, show (List.replicate (6 : Int).toNat (markL ++ [49])).flatten = endB from rfl, sOf_len, endB_len]
        exact sz (by omega)
      · rw [show (List.replicate (6 : Int).toNat (markL ++ [49])).flatten = endB from rfl, sOf_app]
        exact q H1 x1 T1

/-! ### the ends of marks -/
def PlW (l : List Nat) (p : Addr) (H : Hp) (m : Nat) (σ : L2.St) (H' : Hp) : Prop := ∃ (s : Nat) (x : Int), σ = [some (.str (sOf l)), some (.str (sOf mkL)), some (.ref p), some (.int x)] ∧ m = l.length + 1 - s ∧ s ≤ l.length ∧ Same H H' ∧ H' p = some (.lst ((occs l s).map iV)) ∧ ((x < 0 ∧ ∀ v, s ≤ v → occ l v = false) ∨ ∃ k : Nat, x = (k : Int) ∧ s ≤ k ∧ occ l k = true ∧ ∀ v, s ≤ v → v < k → occ l v = false)
def spPlaces : Sp := fun vs H Q _ => ∃ (l : List Nat), vs = [.str (sOf l), .str (sOf mkL)] ∧ l.length ≤ 99000 ∧ ∀ p H', H p = none → Same H H' → H' p = some (.lst ((occs l l.length).map iV)) → Q (.ref p) H'
theorem ok_places_of {A : Ad} (T : Txt w K mg base A) : FnOk P w K mg base CX0 1 A.a_places_of A.d_places_of P_places_of spPlaces := by
  refine T.F_places_of.ok sc_places_of (fun vs H Q E h => ?_) (fun cdv Ar outer s H vs Q E hr h => ?_)
  · obtain ⟨l, rfl, _⟩ := h
    rfl
  · obtain ⟨l, rfl, ll, q⟩ := h
    refine ⟨_, (pss_cons (ps_set (i := 2) sc_places_of.nd rfl (Or.inl rfl) (pe_lst pa_nil))
      (pss_cons (ps_set (i := 3) sc_places_of.nd rfl (Or.inl rfl) (pe_bm PySem.F.plainAttrs_str PySem.F.slot_str_find PySem.F.type_str_find mt_find (pv 0) (pa_cons (pv 1) pa_nil)))
      (pss_cons (ps_while PassesOwn.never (pt_cmpR op_ge (pv 3) pe_int (nomark _))
      (pss_cons (ps_expr (pe_bm PySem.F.plainAttrs_list PySem.F.slot_list_append PySem.F.type_list_append mt_append (pv 2) (pa_cons (pv 3) pa_nil)))
      (pss_one (ps_set (i := 3) sc_places_of.nd rfl (Or.inl rfl) (pe_bm PySem.F.plainAttrs_str PySem.F.slot_str_find PySem.F.type_str_find mt_find3 (pv 0) (pa_cons (pv 1) (pa_cons (pe_op op_add (pv 3) (pe_callB call_len_str (by rfl) T.z_len PySem.boot_len (pa_cons (pv 1) pa_nil))) pa_nil)))))))
      (pss_one (ps_ret (pv 2)))))), ?_⟩
    refine ⟨(by show 0 ≤ sizeLine; decide), fun p hp => ?_⟩
    refine ⟨_, rfl, rfl, _, rfl, _, _, rfl, rfl, ?_⟩
    rw [PyProof.Rows.find_is_find3]
    refine ⟨PlW l p H, ⟨_, 0, _, rfl, rfl, by omega, same_new hp, upd_same, ?_⟩, ?_⟩
    · rcases find_occ l 0 with h | h
      · exact .inl h
      · exact .inr h
    · rintro m σ H1 ⟨s, x, rfl, rfl, hs, sm, hp1, hx⟩
      refine ⟨_, rfl, _, _, rfl, rfl, _, rfl, ?_⟩
      rcases hx with ⟨x0, hn⟩ | ⟨k, rfl, sk, hk, hn⟩
      · refine iteD0 (by omega) ?_
        refine ⟨_, rfl, ?_⟩
        rw [← occs_end hn l.length hs] at hp1
        exact q p H1 hp sm hp1
      · refine iteD1 (by omega) ?_
        have kl := (occ_get hk).1
        have ol := occs_len l s
        refine ⟨fun σ' H' => ∃ m', m' < l.length + 1 - s ∧ PlW l p H m' σ' H', fun σ' H' h => h, ?_⟩
        refine ⟨_, rfl, .inl ⟨rfl, _, SqL.of hp1⟩, _, rfl, p, _, _, rfl, rfl, hp1, (by rw [List.length_map]; exact szl (by omega)), ?_⟩
        refine ⟨_, rfl, rfl, _, rfl, _, rfl, _, rfl, _, rfl, (by rw [sOf_len]; decide), _, _, rfl, rfl, _, _, _, rfl, rfl, ?_⟩
        rw [sOf_len]
        refine ⟨l.length + 1 - (k + 12), by omega, k + 12, _, rfl, rfl, by omega, Same.mut sm hp, ?_, ?_⟩
        · rw [upd_same, occs_one sk hk hn, List.map_append]
          rfl
        · have ek : (k : Int) + (mkL.length : Int) = ((k + 12 : Nat) : Int) := by
            show (k : Int) + 12 = _
            omega
          show (Txt.find3 (sOf l) (sOf mkL) ((k : Int) + (mkL.length : Int)) < 0 ∧ _) ∨ _
          rw [ek]
          rcases find_occ l (k + 12) with h | h
          · exact .inl h
          · exact .inr h
def spMarkEnds : Sp := fun vs H Q _ => ∃ (l : List Nat), vs = [.str (sOf l)] ∧ l.length ≤ 99000 ∧ ∀ p H', H p = none → Same H H' → H' p = some (.lst ((endsL l).map iV)) → Q (.ref p) H'
theorem ok_mark_ends {A : Ad} (T : Txt w K mg base A) : FnOk P w K mg base CX0 2 A.a_mark_ends A.d_mark_ends P_mark_ends spMarkEnds := by
  have G_places_of := ok_places_of (P := P) (w := w) (base := base) T
  refine T.F_mark_ends.ok sc_mark_ends (fun vs H Q E h => ?_) (fun cdv Ar outer s H vs Q E hr h => ?_)
  · obtain ⟨l, rfl, _⟩ := h
    rfl
  · obtain ⟨l, rfl, ll, q⟩ := h
    refine ⟨_, (pss_one (ps_ret (pe_lc (own := [("place", 1)]) (g := gName 1) (tt := tYes) (by rfl) sc_mark_ends.nd (pi_list (pe_call G_places_of (hr.mono (by decide)) (by rfl) T.g_places_of T.F_places_of.kp T.b_places_of .nil pass0 (pa_cons (pv 0) (pa_cons (pe_glob (v := .str (Str.ofString "000000000001")) (by rfl) T.c_MARK ⟨_, rfl⟩) pa_nil)))) (blkOk_by (own := [("place", 1)]) (N := N_mark_ends) (sc := defScope s_mark_ends) (by decide +kernel)) (fun _ _ _ _ _ => pg_name (i := 1) sc_mark_ends.nd rfl (Or.inl rfl)) (fun _ _ _ _ _ => pts_nil) (fun s5 H5 C5 cl5 fp5 => (pe_op op_add (pv 1) (pe_callB call_len_str (by rfl) T.z_len PySem.boot_len (pa_cons (pe_glob (v := .str (Str.ofString "000000000001")) (by rfl) T.c_MARK ⟨_, rfl⟩) pa_nil))))))), ?_⟩
    refine ⟨_, rfl, l, rfl, ll, fun pp H1 np s1 hpp => ?_⟩
    have ol := occs_len l l.length
    refine ⟨pp, rfl, ⟨_, SqL.of hpp⟩, fun D hD => lc_list (K := K) (a := pp) (xs := (occs l l.length).map iV) (fun i H' => Same H1 H' ∧ H' D = some (.lst ((((occs l l.length).take i).map (· + 12)).map iV))) ⟨same_new hD, upd_same⟩ (fun i H' _ hh => SqL.of (hh.1 _ _ hpp)) ?_ ?_⟩
    · rintro j x H2 hx ⟨sm, hD2⟩
      obtain ⟨k, hk, rfl⟩ : ∃ k, (occs l l.length)[j]? = some k ∧ iV k = x := by
        rw [List.getElem?_map] at hx
        cases e : (occs l l.length)[j]? with
        | none =>
          rw [e] at hx
          cases hx
        | some k =>
          rw [e] at hx
          exact ⟨k, rfl, Option.some.inj hx⟩
      have jl := (List.getElem?_eq_some_iff.mp hk).1
      refine ⟨rfl, _, rfl, _, rfl, (by decide), _, _, rfl, rfl, _, hD2, ?_, Same.mut sm hD, ?_⟩
      · rw [List.length_map, List.length_map, List.length_take]
        exact szl (by omega)
      · rw [upd_same, take_more _ _ _ hk, List.map_append, List.map_append]
        rfl
    · rintro H2 ⟨sm, hD2⟩
      rw [List.length_map, List.take_length] at hD2
      have fD : H D = none := by
        cases z : H D with
        | none => rfl
        | some o =>
          rw [s1 _ _ z] at hD
          cases hD
      exact q D H2 fD (s1.trans sm) hD2

/-! ### stretches -/
def spEmpty : Sp := fun vs H Q _ => ∃ (st : List Nat), vs = [.str (sOf st)] ∧ Bts st ∧ 2 ≤ st.length ∧ st.length ≤ 99000 ∧ st[st.length - 1]? = some 49 ∧ Q (.bl (emp st)) H
theorem ok_is_empty {A : Ad} (T : Txt w K mg base A) : FnOk P w K mg base CX0 1 A.a_is_empty A.d_is_empty P_is_empty spEmpty := by
  refine T.F_is_empty.ok sc_is_empty (fun vs H Q E h => ?_) (fun cdv Ar outer s H vs Q E hr h => ?_)
  · obtain ⟨st, rfl, _⟩ := h
    rfl
  · obtain ⟨st, rfl, bs, l2, l9, hl, q⟩ := h
    refine ⟨_, (pss_one (ps_ret (pe_and (pe_cmpR op_eq (pe_ix ix_str (pv 0) pe_int (fun _ _ => rfl)) pe_str (nomark _)) (pe_one (pe_cmpR op_notIn_sign pe_str (pe_slice sl_str (pv 0) (po_some pe_int) (po_some (pe_un un_neg pe_int))) (by rfl)))))), ?_⟩
    have hz : (sOf st).length ≤ sizeLine := by
      rw [sOf_len]
      exact sz (by omega)
    have e0 : st[0]? = some st[0] := List.getElem?_eq_getElem (by omega)
    have ei := emp_iff bs l2 hl
    refine ⟨_, rfl, _, _, _, rfl, rfl, hz, sOf_at (i := 0) e0, rfl, _, rfl, ?_⟩
    by_cases z : st[0] = 49
    · refine iteD1 (vstr1.mpr z) ?_
      refine ⟨_, rfl, _, rfl, _, rfl, _, rfl, _, rfl, hz, 49, _, rfl, rfl, ?_⟩
      rw [cutS_mid1 l2, sOf_list]
      have : (!decide (49 ∈ (st.drop 1).take (st.length - 2))) = emp st := by
        by_cases y : 49 ∈ (st.drop 1).take (st.length - 2)
        · rw [decide_eq_true y]
          cases x : emp st with
          | false => rfl
          | true => exact absurd y (ei.mp x).2
        · rw [decide_eq_false y]
          exact (ei.mpr ⟨by rw [e0, z], y⟩).symm
      rw [this]
      exact q
    · refine iteD0 (fun y => z (vstr1.mp y)) ?_
      have : emp st = false := by
        cases x : emp st with
        | false => rfl
        | true =>
          have := (ei.mp x).1
          rw [e0] at this
          exact absurd (Option.some.inj this) z
      rw [this] at q
      exact q
/-- what is told of stretches -/
def TolR (H : Hp) (p : Addr) (F' : List (List Nat)) (b : Bool) : Prop := ∃ q, H p = some (.tup [.ref q, .bl b]) ∧ H q = some (.lst (F'.map sV))
theorem sttL_bts {l : List Nat} (h : Bts l) (i : Nat) : Bts ((sttL l).getD i []) := by
  rw [List.getD_eq_getElem?_getD]
  cases e : (sttL l)[i]? with
  | none => exact Bts.nil
  | some w =>
    have hm := List.mem_of_getElem? e
    unfold sttL at hm
    obtain ⟨k, _, rfl⟩ := List.mem_map.mp hm
    exact (h.drop _).take _
theorem sVs_at {F : List (List Nat)} {i : Nat} (h : i < F.length) : (F.map sV)[i]? = some (sV (F.getD i [])) := by
  rw [List.getElem?_map, List.getD_eq_getElem?_getD, List.getElem?_eq_getElem h]
  rfl
theorem ends_iV {l : List Nat} {i : Nat} (h : i < (endsL l).length) : ((endsL l).map iV)[i]? = some (.int ((endsL l).getD i 0 : Int)) := by
  rw [List.getElem?_map, List.getD_eq_getElem?_getD, List.getElem?_eq_getElem h]
  rfl
theorem cutV_upto (xs : List V) (n : Nat) : cutV xs none (some (n : Int)) = xs.take n := by
  unfold cutV
  rw [HT.sIx_nat, HT.sIx_none]
  show (xs.drop 0).take (min n xs.length - 0) = _
  rw [List.drop_zero, Nat.sub_zero]
  by_cases h : n ≤ xs.length
  · rw [Nat.min_eq_left h]
  · rw [Nat.min_eq_right (by omega), List.take_length, List.take_of_length_le (by omega)]
def spStretches : Sp := fun vs H Q _ => ∃ (l : List Nat), vs = [.str (sOf l)] ∧ Bts l ∧ l.length ≤ 99000 ∧ ∀ p r H' F' b, H r = none → Same H H' → H' p = some (.tup [.ref r, .bl b]) → H' r = some (.lst (F'.map sV)) → StrR (sttL l) F' b → Q (.ref p) H'
theorem ok_stretches {A : Ad} (T : Txt w K mg base A) : FnOk P w K mg base CX0 3 A.a_stretches A.d_stretches P_stretches spStretches := by
  have G_mark_ends := ok_mark_ends (P := P) (w := w) (base := base) T
  have G_is_empty := ok_is_empty (P := P) (w := w) (base := base) T
  refine T.F_stretches.ok sc_stretches (fun vs H Q E h => ?_) (fun cdv Ar outer s H vs Q E hr h => ?_)
  · obtain ⟨l, rfl, _⟩ := h
    rfl
  · obtain ⟨l, rfl, bl, ll, q⟩ := h
    refine ⟨_, (pss_cons (ps_set (i := 1) sc_stretches.nd rfl (by first | exact Or.inl rfl | exact Or.inr rfl) (pe_call G_mark_ends (hr.mono (by decide)) (by rfl) T.g_mark_ends T.F_mark_ends.kp T.b_mark_ends .nil pass0 (pa_cons (pv 0) pa_nil)))
      (pss_cons (ps_setLc (i := 2) (own := [("at", 3)]) (g := gName 3) (tt := tYes) (by rfl) sc_stretches.nd rfl rfl (sw_true rfl rfl rfl (by decide +kernel)) (pi_range2 (by rfl) T.z_range (pa_cons pe_int (pa_cons (pe_callB (r := fun xs H Q => ∃ p ys, xs = [.ref p] ∧ (SqL K H p ys ∨ SqT K H p ys) ∧ Q (.int ys.length) H) call_len_seq (by rfl) T.z_len PySem.boot_len (pa_cons (pv 1) pa_nil)) pa_nil))) (blkOk_by (own := [("at", 3)]) (N := N_stretches) (sc := defScope s_stretches) (by decide +kernel)) (fun _ _ _ _ _ => pg_name (i := 3) sc_stretches.nd rfl (Or.inl rfl)) (fun _ _ _ _ _ => pts_nil) (fun s5 H5 C5 cl5 fp5 => (pe_slice sl_str (pv 0) (po_some (pe_ix (r := rIxL K) ix_list (pv 1) (pe_op op_sub (pv 3) pe_int) (fun _ _ => rfl))) (po_some (pe_ix (r := rIxL K) ix_list (pv 1) (pv 3) (fun _ _ => rfl))))))
      (pss_cons (ps_for PassesOwn.never rfl (pi_range2 (by rfl) T.z_range (pa_cons pe_int (pa_cons (pe_callB (r := fun xs H Q => ∃ p ys, xs = [.ref p] ∧ (SqL K H p ys ∨ SqT K H p ys) ∧ Q (.int ys.length) H) call_len_seq (by rfl) T.z_len PySem.boot_len (pa_cons (pv 2) pa_nil)) pa_nil))) (pg_name (i := 3) sc_stretches.nd rfl (Or.inl rfl))
      (pss_one (ps_if (PW.pt (pw_and (pt_val (pe_call G_is_empty (hr.mono (by decide)) (by rfl) T.g_is_empty T.F_is_empty.kp T.b_is_empty .nil pass0 (pa_cons (pe_ix (r := rIxL K) ix_list (pv 2) (pe_op op_sub (pv 3) pe_int) (fun _ _ => rfl)) pa_nil))) (pw_and1 (pt_val (pe_call G_is_empty (hr.mono (by decide)) (by rfl) T.g_is_empty T.F_is_empty.kp T.b_is_empty .nil pass0 (pa_cons (pe_ix (r := rIxL K) ix_list (pv 2) (pv 3) (fun _ _ => rfl)) pa_nil))))))
      (pss_one (ps_ret (pe_tup (pa_cons (pe_slice sl_list (pv 2) po_none (po_some (pe_op op_sub (pv 3) pe_int))) (pa_cons pe_bl pa_nil))))) pss_nil)))
      (pss_one (ps_ret (pe_tup (pa_cons (pv 2) (pa_cons pe_bl pa_nil)))))))), ?_⟩
    have hz : (sOf l).length ≤ sizeLine := by
      rw [sOf_len]
      exact sz (by omega)
    have el : (endsL l).length ≤ 99000 := by
      unfold endsL
      rw [List.length_map]
      have := occs_len l l.length
      omega
    have sl := sttL_len l
    refine ⟨_, rfl, l, rfl, ll, fun ep H1 ne s1 hep => ?_⟩
    have ml : ((endsL l).map iV).length = (endsL l).length := List.length_map ..
    refine ⟨_, rfl, ep, _, rfl, .inl (SqL.of hep), _, _, rfl, ⟨by decide, by decide, by omega, by omega⟩, fun D hD => ?_⟩
    rw [show ((((endsL l).map iV).length : Int) - 1).toNat = (sttL l).length by omega]
    refine lc_range (lo := 1) (n := (sttL l).length) (fun i H' => Same H1 H' ∧ H' D = some (.lst (((sttL l).take i).map sV))) ⟨same_new hD, upd_same⟩ ?_ ?_
    · rintro i H2 hi ⟨sm, hD2⟩
      have sa := str_at (l := l) (i := i) (by omega)
      have he2 := sm _ _ hep
      refine ⟨rfl, _, rfl, _, rfl, _, rfl, _, _, rfl, rfl, _, _, _, _, rfl, rfl, SqL.of he2, (by rw [show (1 : Int) + (i : Int) - 1 = (i : Int) by omega]; exact atI_nat (ends_iV (by omega))), _, rfl, _, rfl, _, rfl, _, _, _, _, rfl, rfl, SqL.of he2, (by rw [show (1 : Int) + (i : Int) = ((i + 1 : Nat) : Int) by omega]; exact atI_nat (ends_iV (by omega))), _, rfl, _, rfl, hz, _, hD2, ?_, Same.mut sm hD, ?_⟩
      · rw [List.length_map, List.length_take]
        exact szl (by omega)
      · rw [upd_same, cutS_mid l _ _ (by omega), take_more _ _ _ sa.2.2.2.2, List.map_append]
        rfl
    · rintro H2 ⟨sm2, hD2⟩
      rw [List.take_length] at hD2
      have fD : H D = none := by
        cases z : H D with
        | none => rfl
        | some o =>
          rw [s1 _ _ z] at hD
          cases hD
      have sml : ((sttL l).map sV).length = (sttL l).length := List.length_map ..
      refine ⟨_, rfl, D, _, rfl, .inl (SqL.of hD2), _, _, rfl, ⟨by decide, by decide, by omega, by omega⟩, ?_⟩
      rw [show ((((sttL l).map sV).length : Int) - 1).toNat = (sttL l).length - 1 by omega]
      refine for_range (lo := 1) (n := (sttL l).length - 1) (fun i σ H' => ∃ y3 : Option V, σ = [some (.str (sOf l)), some (.ref ep), some (.ref D), y3] ∧ H' = H2 ∧ ∀ a, 1 ≤ a → a < 1 + i → ¬ E2 (sttL l) a) ⟨_, rfl, rfl, fun a x y => absurd y (by omega)⟩ ?_ ?_
      · rintro i σ H3 hi ⟨y3, rfl, rfl, hn⟩
        have sa := str_at (l := l) (i := i) (by omega)
        have sb := str_at (l := l) (i := i + 1) (by omega)
        have nxt : ¬ E2 (sttL l) (i + 1) → ∀ a, 1 ≤ a → a < 1 + (i + 1) → ¬ E2 (sttL l) a := fun h a x y => by
          by_cases z : a = i + 1
          · rw [z]
            exact h
          · exact hn a x (by omega)
        refine ⟨_, rfl, _, rfl, _, _, rfl, rfl, _, _, _, _, rfl, rfl, SqL.of hD2, (by rw [show (1 : Int) + (i : Int) - 1 = (i : Int) by omega]; exact atI_nat (sVs_at (by omega))), _, rfl, sttL_bts bl i, by omega, by omega, sa.2.2.2.1, _, rfl, ?_⟩
        cases x1 : emp ((sttL l).getD i []) with
        | false =>
          refine iteF (iteF ?_)
          refine ⟨_, rfl, rfl, nxt fun z => ?_⟩
          have := z.1
          rw [Nat.add_sub_cancel, x1] at this
          cases this
        | true =>
          refine iteT ?_
          refine ⟨_, rfl, _, rfl, _, _, _, _, rfl, rfl, SqL.of hD2, (by rw [show (1 : Int) + (i : Int) = ((i + 1 : Nat) : Int) by omega]; exact atI_nat (sVs_at (by omega))), _, rfl, sttL_bts bl (i + 1), by omega, by omega, sb.2.2.2.1, _, rfl, ?_⟩
          cases x2 : emp ((sttL l).getD (i + 1) []) with
          | false =>
            refine iteF ?_
            refine ⟨_, rfl, rfl, nxt fun z => ?_⟩
            have := z.2
            rw [x2] at this
            cases this
          | true =>
            refine iteT ?_
            refine ⟨_, rfl, _, rfl, _, _, rfl, rfl, _, rfl, _, _, rfl, SqL.of hD2, fun p5 hp5 => ⟨(by show 2 ≤ sizeLine; decide), fun p6 hp6 => ?_⟩⟩
            have np : p5 ≠ p6 := ne_of_none upd_same hp6
            refine q p6 p5 _ ((sttL l).take i) true ?_ ((s1.trans sm2).trans ((same_new hp5).trans (same_new hp6))) upd_same ?_ (.inl ⟨rfl, i + 1, by omega, by omega, ⟨by rw [Nat.add_sub_cancel]; exact x1, x2⟩, fun a x y => hn a x (by omega), by rw [Nat.add_sub_cancel]⟩)
            · cases z : H p5 with
              | none => rfl
              | some o =>
                rw [sm2 _ _ (s1 _ _ z)] at hp5
                cases hp5
            · rw [upd_ne np, upd_same, show (1 : Int) + (i : Int) - 1 = (i : Int) by omega, cutV_upto, List.map_take]
      · rintro σ H3 ⟨y3, rfl, rfl, hn⟩
        refine ⟨_, rfl, (by show 2 ≤ sizeLine; decide), fun p6 hp6 => ?_⟩
        exact q p6 D _ (sttL l) false fD ((s1.trans sm2).trans (same_new hp6)) upd_same (by rw [upd_ne (ne_of_none hD2 hp6)]; exact hD2) (.inr ⟨rfl, fun a x y => hn a x (by omega), rfl⟩)

/-! ### a bag, tables that may grow -/
def BxN (p b : Addr) (H H' : Hp) : Prop := BagAt H' b ∧ LamX.Tabs (TT p) H' ∧ ∀ a o, a ≠ b → H a = some o → (∀ ps, o ≠ .tbl ps) → H' a = some o
theorem BxN.bx {p b : Addr} {H H1 H2 : Hp} (h : BxN p b H H1) (x : Bx b H1 H2) : BxN p b H H2 := by
  refine ⟨x.1, ?_, fun a o n e nt => x.2 a o n (h.2.2 a o n e nt)⟩
  obtain ⟨g, s, e, _⟩ := h.1
  exact tabs_but (q := b) h.2.1 e (fun c o n z => x.2 c o n z)
theorem bag_ext {b : Addr} {H H' : Hp} (h : BagAt H b) (e : LamX.ExtN H H') : BagAt H' b := by
  obtain ⟨g, s, h, r⟩ := h
  exact ⟨g, s, e _ _ h (fun ps z => by cases z), r⟩
theorem BxN.ext {p b : Addr} {H H1 H2 : Hp} (h : BxN p b H H1) (e : LamX.ExtN H1 H2) (t : LamX.Tabs (TT p) H2) : BxN p b H H2 := ⟨bag_ext h.1 e, t, fun a o n z nt => e _ _ (h.2.2 a o n z nt) nt⟩
theorem BxN.same {p b : Addr} {H H1 H2 : Hp} (h : BxN p b H H1) (e : Same H1 H2) : BxN p b H H2 := h.ext (extN_of e) (tabs_same h.2.1 e)
theorem BxN.new {p b : Addr} {H : Hp} {g s : Int} (hb : H b = none) (g0 : 0 ≤ g) (s0 : 0 ≤ s) (s1 : s < 1000000000000) (t : LamX.Tabs (TT p) H) : BxN p b H (upd H b (.lst [.int g, .int s])) := ⟨BagAt.new g0 s0 s1, tabs_same t (same_new hb), fun a o _ e _ => same_new hb _ _ e⟩
theorem BxN.back {p b : Addr} {H H' : Hp} (h : BxN p b H H') (n : H b = none) : LamX.ExtN H H' := fun a o e nt => h.2.2 a o (ne_of_none e n) e nt
theorem extN_seq {K : PySem.W.Frag} {H H' : Hp} {a : Addr} {xs : List V} (e : LamX.ExtN H H') (h : SqL K H a xs) : SqL K H' a xs := by
  rcases h with (h | ⟨o, h⟩) | h
  · exact .inl (.inl (e _ _ h (fun ps z => by cases z)))
  · exact .inl (.inr ⟨o, e _ _ h (fun ps z => by cases z)⟩)
  · exact .inr h

/-! ### a page's bits are bits -/
theorem tabW_bts (d : Bool) : ∀ w ∈ tabW d, ∀ c ∈ w, c = 48 ∨ c = 49 := by
  cases d <;> decide +kernel
theorem third_bts : ∀ w ∈ thirdW, ∀ c ∈ w, c = 48 ∨ c = 49 := by decide +kernel
theorem getD_bts {W : List (List Nat)} (h : ∀ w ∈ W, ∀ c ∈ w, c = 48 ∨ c = 49) (j : Nat) : Bts (W.getD j []) := by
  rw [List.getD_eq_getElem?_getD]
  cases e : W[j]? with
  | none => exact Bts.nil
  | some w => exact h w (List.mem_of_getElem? e)
theorem runT_bts (d : Bool) (r : Nat) : Bts (runT (tabW d) r) := by
  unfold runT
  split
  · exact getD_bts (tabW_bts d) _
  · exact (getD_bts (tabW_bts d) _).app (getD_bts (tabW_bts d) _)
theorem plainF_bts : ∀ (rs : List Nat) (d : Bool), Bts (plainF rs d)
  | [], _ => Bts.nil
  | r :: rs, d => (runT_bts d r).app (plainF_bts rs (!d))
theorem stpB_bts (c : Nat) (st : Stp) : Bts (stpB c st) := by
  cases st with
  | passed => exact getD_bts third_bts _
  | near d => exact getD_bts third_bts _
  | plain a b => exact ((getD_bts third_bts _).app (runT_bts _ _)).app (runT_bts _ _)
theorem aboveB_bts (ab l : List Nat) : Bts (aboveB ab l) := fun c hc => by
  obtain ⟨w, hw, hc⟩ := List.mem_flatten.mp hc
  obtain ⟨x, _, rfl⟩ := List.mem_map.mp hw
  exact stpB_bts _ _ c hc
theorem markL_bts : Bts markL := by
  have : ∀ c ∈ markL, c = 48 ∨ c = 49 := by decide
  exact this
theorem rowB_bts (rows : List (List Nat)) (k e : Nat) : Bts (rowB rows k e) := by
  unfold rowB
  split
  · exact markL_bts.app ((Bts.one (.inr rfl)).app (plainF_bts _ _))
  · exact markL_bts.app ((Bts.one (.inl rfl)).app (aboveB_bts _ _))
theorem pageB_bts (rows : List (List Nat)) (e m : Nat) : Bts (pageB rows e m) := by
  unfold pageB
  refine Bts.app (fun c hc => ?_) (flat_bts (markL_bts.app (Bts.one (.inr rfl))) 6)
  obtain ⟨w, hw, hc⟩ := List.mem_flatten.mp hc
  obtain ⟨k, _, rfl⟩ := List.mem_map.mp hw
  exact ((rowB_bts rows k e).app (Bts.rep (.inl rfl))) c hc
theorem pageB_len {n e m : Nat} {rows : List (List Nat)} (h : Good n rows) (n64 : n ≤ 64) (hm : m ≤ 240) (r : rows.length ≤ 6) : (pageB rows e m).length ≤ 24000 := by
  have := flat_le 3913 (pageR rows e m rows.length) (fun z hz => by
    obtain ⟨k, hk, rfl⟩ := List.mem_map.mp hz
    exact padB_len (rowB_len h (List.mem_range.mp hk) n64) hm)
  have l1 : (pageR rows e m rows.length).length = rows.length := by
    unfold pageR
    rw [List.length_map, List.length_range]
  rw [l1] at this
  unfold pageB
  rw [List.length_append, endB_len]
  omega

/-! ### no ten noughts -/
theorem runT_few0 (d : Bool) : ∀ r, r < 65 → Few (runT (tabW d) r) := by
  cases d <;> decide +kernel
theorem runT_few (d : Bool) {r : Nat} (h : r ≤ 64) : Few (runT (tabW d) r) := runT_few0 d r (by omega)
theorem third_few : ∀ w ∈ thirdW, Few w := by decide +kernel
theorem third_few_at {j : Nat} (h : j < 9) : Few (thirdW.getD j []) := by
  have h2 : j < thirdW.length := by rw [third_len]; exact h
  rw [List.getD_eq_getElem?_getD, List.getElem?_eq_getElem h2]
  exact third_few _ (List.getElem_mem h2)
theorem plainF_few : ∀ (rs : List Nat) (d : Bool), (∀ r ∈ rs, r ≤ 64) → Few (plainF rs d)
  | [], _, _ => Few.nil
  | r :: rs, d, h => (runT_few d (h r (List.mem_cons_self ..))).app (plainF_few rs (!d) fun x hx => h x (List.mem_cons_of_mem _ hx))
theorem plainB_few {l : List Nat} (h : Row l) (h64 : l.length ≤ 64) : Few (plainB l) := plainF_few _ _ (runs_le h h64)
theorem stpB_few {c : Nat} {st : Stp} (h : okStep 64 st) : Few (stpB c st) := by
  cases st with
  | passed => exact third_few_at (by decide)
  | near d => exact third_few_at (nearIx_lt d)
  | plain a b => exact ((third_few_at (by decide)).app (runT_few _ h.1)).app (runT_few _ h.2)
theorem aboveB_few {ab l : List Nat} (e : ab.length = l.length) (h64 : l.length ≤ 64) : Few (aboveB ab l) := Few.flat fun w hw => by
  obtain ⟨x, hx, rfl⟩ := List.mem_map.mp hw
  exact stpB_few (okStep.mono (stepsL_ok e x hx).1 h64)
theorem row_cnt {n k e m : Nat} {rows : List (List Nat)} (h : Good n rows) (hk : k < rows.length) (n64 : n ≤ 64) (t : Nat) : cntM t (padB (rowB rows k e) m) = 1 := by
  have g := good_at h hk
  have g1 := good_at h (show k - 1 < rows.length by omega)
  unfold padB rowB
  split
  · exact cnt_row (plainB_few g.2.2 (by omega))
  · exact cnt_row (aboveB_few (by rw [g.2.1, g1.2.1]) (by omega))
theorem page_cnt {n e m : Nat} {rows : List (List Nat)} (h : Good n rows) (n64 : n ≤ 64) : cntM 0 (pageB rows e m) = rows.length + 6 := by
  unfold pageB
  rw [cntM_app, cnt_flat 0 (fun w hw t => by
    obtain ⟨k, hk, rfl⟩ := List.mem_map.mp hw
    exact row_cnt h (List.mem_range.mp hk) n64 t)]
  have l1 : (pageR rows e m rows.length).length = rows.length := by
    unfold pageR
    rw [List.length_map, List.length_range]
  rw [l1]
  have : ∀ t, cntM t endB = 6 := fun t => cnt_flat (ws := List.replicate 6 (markL ++ [49])) t (fun w hw t => by
    rw [(List.mem_replicate.mp hw).2]
    exact cnt_end t)
  rw [this]
theorem ten_none {l : List Nat} (h : Few l) : (Builtin.Str.occurrences (sOf l) (sOf (List.replicate 10 48)) 0 (sOf l).length 1).isEmpty = true := by
  rcases StrLaws.occ_head_from (sOf l) (sOf (List.replicate 10 48)) 0 1 (Nat.le_refl _) with ⟨h0, _⟩ | ⟨k, r, h0, _, hk, _⟩
  · rw [h0]
    rfl
  · exfalso
    have h2 := hk.2
    rw [StrLaws.subAt_eq, sOf_list, sOf_list, sOf_len, List.length_replicate] at h2
    have := ten_mxZ (t := 0) (n := 10) (i := k) (l := l) (eq_of_beq h2)
    have := (h.from (Nat.zero_le 4)).2
    omega

--SPLIT
/-! ### bits told of things -/
def NoTxt (K : PySem.W.Frag) (H : Hp) (v : V) : Prop := ∃ t, TyOf K H v (.type t) ∧ t ∈ ["NoneType", "bool", "int", "list", "tuple"]
theorem isS_no {t : String} (h : t ∈ ["NoneType", "bool", "int", "list", "tuple"]) : PySem.W.kitOne K (.type t) (.type "str") = some false := by
  have : ∀ t ∈ ["NoneType", "bool", "int", "list", "tuple"], kitB t "str" = some false := by decide +kernel
  exact kit_ty (this t h)
theorem isS_yes : PySem.W.kitOne K (.type "str") (.type "str") = some true := kit_ty (by decide +kernel)
def spIsBits (K : PySem.W.Frag) : Sp := fun vs H Q _ => ∃ v : V, vs = [v] ∧ ((NoTxt K H v ∧ Q (.bl false) H) ∨ ∃ l : List Nat, v = .str (sOf l) ∧ l.length ≤ 99000 ∧ Q (.bl (isB l)) H)
theorem ok_is_bits {A : Ad} (T : Txt w K mg base A) : FnOk P w K mg base CX0 1 A.a_is_bits A.d_is_bits P_is_bits (spIsBits K) := by
  refine T.F_is_bits.ok sc_is_bits (fun vs H Q E h => ?_) (fun cdv Ar outer s H vs Q E hr h => ?_)
  · obtain ⟨v, rfl, _⟩ := h
    rfl
  · obtain ⟨v, rfl, h⟩ := h
    refine ⟨_, (pss_cons (ps_if (pt_not (pt_val (pe_callB (r := rIsi K) call_isi (by rfl) T.z_isinstance (by decide +kernel) (pa_cons (pv 0) (pa_cons (pe_bltn (v := .ty "str") (by rfl) T.z_str (by decide +kernel) rfl) pa_nil)))))
      (pss_one (ps_ret pe_bl)) pss_nil)
      (pss_one (ps_ret (pe_cmpR op_eq (pe_op op_add (pe_bm PySem.F.plainAttrs_str PySem.F.slot_str_count PySem.F.type_str_count mt_count (pv 0) (pa_cons pe_str pa_nil)) (pe_bm PySem.F.plainAttrs_str PySem.F.slot_str_count PySem.F.type_str_count mt_count (pv 0) (pa_cons pe_str pa_nil))) (pe_callB call_len_str (by rfl) T.z_len PySem.boot_len (pa_cons (pv 0) pa_nil)) (nomark _))))), ?_⟩
    rcases h with ⟨⟨t, ht, mt⟩, q⟩ | ⟨l, rfl, ll, q⟩
    · refine ⟨_, rfl, _, _, _, _, false, rfl, ClsV.ty _, TyX.base ht, isS_no mt, _, rfl, ?_⟩
      exact q
    · have hl : (sOf l).length ≤ sizeLine := by
        rw [sOf_len]
        exact sz (by omega)
      refine ⟨_, rfl, _, _, _, _, true, rfl, ClsV.ty _, TyX.base (.str _), isS_yes, _, rfl, ?_⟩
      refine ⟨_, rfl, rfl, _, _, rfl, rfl, _, rfl, rfl, _, _, rfl, rfl, _, _, rfl, rfl, _, rfl, _, rfl, hl, rfl, ?_⟩
      rw [← bits_counted] at q
      exact q

/-! ### what a table tells at a place -/
def spReadBy (C : Addr) : Sp := fun vs H Q E => ∃ (ta : Addr) (tb : List (List Nat)) (l : List Nat) (a : Nat) (x : Int), vs = [.ref ta, .str (sOf l), .int x] ∧ x = a ∧ H ta = some (.lst (tb.map sV)) ∧ a ≤ l.length ∧
  (∀ (r : Nat) u, tb[r]? = some u → u <+: l.drop a → ∀ H', Same H H' → Q (.int (r : Int)) H') ∧ ((∀ (r : Nat) u, tb[r]? = some u → ¬ u <+: l.drop a) → ∀ H', Same H H' → E (.ref C) none H')
theorem ok_read_by {A : Ad} (T : Txt w K mg base A) : FnOk P w K mg base (L2.CX P w) 1 A.a_read_by A.d_read_by P_read_by (spReadBy A.x_NoTelling) := by
  refine T.F_read_by.okX sc_read_by (fun vs H Q E h => ?_) (fun cdv Ar outer s H vs Q E hr h => ?_)
  · obtain ⟨ta, tb, l, a, x, rfl, _⟩ := h
    rfl
  · obtain ⟨ta, tb, l, a, _, rfl, rfl, ht, al, q, qx⟩ := h
    refine ⟨_, (pss_cons (ps_for (passes_of rfl) rfl (pi_enum (by rfl) T.z_enumerate (pa_cons (pv 0) pa_nil)) (pg_tup (by rfl) (pgs_cons (pg_name (i := 3) sc_read_by.nd rfl (Or.inl rfl)) (pgs_cons (pg_name (i := 4) sc_read_by.nd rfl (Or.inl rfl)) pgs_nil)))
      (pss_one (ps_if (pt_val (pe_bm PySem.F.plainAttrs_str PySem.F.slot_str_startswith PySem.F.type_str_startswith mt_startswith3 (pv 1) (pa_cons (pv 4) (pa_cons (pv 2) pa_nil))))
      (pss_one (ps_ret (pv 3))) pss_nil)))
      (pss_one (ps_raise rfl (takes_of rfl rfl rfl rfl) (pmk_own PySem.F.excBase_ValueError T.xq_NoTelling T.xg_NoTelling T.xk_NoTelling (raises_own T.xs_NoTelling T.xt_NoTelling) (by rfl))))), ?_⟩
    refine ⟨_, rfl, ta, _, rfl, SqL.of ht, for_it (walk_enum (K := K) (a := ta) (xs := tb.map sV)) (fun i σ H' => ∃ y3 y4 : Option V, σ = [some (.ref ta), some (.str (sOf l)), some (.int (a : Int)), y3, y4] ∧ Same H H' ∧ ∀ (r : Nat) u, r < i → tb[r]? = some u → ¬ u <+: l.drop a) ⟨none, none, rfl, Same.refl H, fun r u h => absurd h (by omega)⟩ (fun i σ H' _ ⟨_, _, _, s, _⟩ => SqL.of (s _ _ ht)) ?_ ?_⟩
    · rintro i x σ H1 H2 hi ⟨y3, y4, rfl, sm, no⟩ ⟨Tq, u1, u2, rfl, hT, rfl, e1, e2⟩
      obtain rfl := Option.some.inj e1
      have e2 : (tb.map sV)[i]? = some u2 := e2
      rw [List.getElem?_map] at e2
      obtain ⟨u, hu, rfl⟩ : ∃ u, tb[i]? = some u ∧ sV u = u2 := by
        cases e : tb[i]? with
        | none =>
          rw [e] at e2
          cases e2
        | some u =>
          rw [e] at e2
          exact ⟨u, rfl, Option.some.inj e2⟩
      have sm2 : Same H (upd H1 Tq (.tup [.int (i : Nat), sV u])) := sm.trans (same_new hT)
      refine ⟨Tq, _, rfl, .inl (.inl upd_same), rfl, _, _, rfl, _, _, rfl, rfl, ?_⟩
      refine ⟨_, rfl, rfl, _, rfl, _, rfl, sOf l, sOf u, (a : Int), rfl, rfl, _, rfl, ?_⟩
      rw [starts_at al]
      by_cases z : u <+: l.drop a
      · refine iteD1 z ?_
        exact ⟨_, rfl, q i u hu z _ sm2⟩
      · refine iteD0 z ?_
        refine ⟨some (.int (i : Nat)), some (sV u), rfl, sm2, fun r v hr hv => ?_⟩
        by_cases e : r = i
        · subst e
          rw [hu] at hv
          cases hv
          exact z
        · exact no r v (by omega) hv
    · rintro σ H1 ⟨y3, y4, rfl, sm, no⟩
      rw [List.length_map] at no
      exact qx (fun r u hu => no r u (List.getElem?_eq_some_iff.mp hu).1 hu) H1 sm

/-! ### plain tellings read -/
theorem pf_tab (d : Bool) : PF (tabW d) := by
  cases d
  · exact ⟨by decide +kernel, by decide +kernel⟩
  · exact ⟨by decide +kernel, by decide +kernel⟩
def rdL (m : Nat) (l : List Nat) : Option (List Nat × Nat) := rdP tabW m l (m + 1) [] 0 false
def rtabL (d : Bool) (m : Nat) : List (List Nat) := (List.range (m + 1)).map fun r => runT (tabW d) r
theorem rtab_map (d : Bool) (m : Nat) : rtab d m = (rtabL d m).map sV := by
  unfold rtab rtabL
  rw [List.map_map]
  rfl
theorem rtabL_at {d : Bool} {m r : Nat} {u : List Nat} (h : (rtabL d m)[r]? = some u) : r ≤ m ∧ u = runT (tabW d) r := by
  unfold rtabL at h
  rw [List.getElem?_map] at h
  by_cases z : r < m + 1
  · rw [List.getElem?_range z] at h
    exact ⟨by omega, (Option.some.inj h).symm⟩
  · rw [List.getElem?_eq_none (by rw [List.length_range]; omega)] at h
    cases h
theorem rtabL_of {d : Bool} {m r : Nat} (h : r ≤ m) : (rtabL d m)[r]? = some (runT (tabW d) r) := by
  unfold rtabL
  rw [List.getElem?_map, List.getElem?_range (by omega)]
  rfl
def spReadPl (K : PySem.W.Frag) (p C : Addr) : Sp := fun vs H Q E => ∃ (v : V) (m : Nat) (x : Int), vs = [.int x, v] ∧ x = m ∧ m ≤ 64 ∧ LamX.Tabs (TT p) H ∧
  ((NoTxt K H v ∧ E (.ref C) none H) ∨ ∃ l : List Nat, v = .str (sOf l) ∧ l.length ≤ 99000 ∧ (isB l = false → E (.ref C) none H) ∧
    (isB l = true → rdL m l = none → ∀ H', LamX.ExtN H H' → LamX.Tabs (TT p) H' → E (.ref C) none H') ∧
    (isB l = true → ∀ row a, rdL m l = some (row, a) → ∀ q H', LamX.ExtN H H' → LamX.Tabs (TT p) H' → H' q = some (.tup [.str (sOf row), .int (a : Int)]) → Q (.ref q) H'))
theorem ok_read_plain {A : Ad} (T : Txt w K mg base A) : FnOk P w K mg base (L2.CX P w) 6 A.a_read_plain A.d_read_plain P_read_plain (spReadPl K A.p_making_order A.x_NoTelling) := by
  have G_run_tables := ok_run_tables (P := P) (w := w) (base := base) T
  have G_is_bits := ok_is_bits (P := P) (w := w) (base := base) T
  have G_read_by := ok_read_by (P := P) (w := w) (base := base) T
  have G_other_cell := ok_other_cell (P := P) (w := w) (base := base) T
  refine T.F_read_plain.okX sc_read_plain (fun vs H Q E h => ?_) (fun cdv Ar outer s H vs Q E hr h => ?_)
  · obtain ⟨v, m, x, rfl, _⟩ := h
    rfl
  · obtain ⟨v, m, _, rfl, rfl, m1, hT, h⟩ := h
    refine ⟨_, (pss_cons (ps_if (pt_not (pt_val (pe_call G_is_bits (hr.mono (by decide)) (by rfl) T.g_is_bits T.F_is_bits.kp T.b_is_bits .nil pass0 (pa_cons (pv 1) pa_nil))))
      (pss_one (ps_raise rfl (takes_of rfl rfl rfl rfl) (pmk_own PySem.F.excBase_ValueError T.xq_NoTelling T.xg_NoTelling T.xk_NoTelling (raises_own T.xs_NoTelling T.xt_NoTelling) (by rfl)))) pss_nil)
      (pss_cons (ps_set (i := 2) sc_read_plain.nd rfl (Or.inl rfl) (pe_call G_run_tables (hr.mono (by decide)) (by rfl) T.g_run_tables T.F_run_tables.kp T.b_run_tables .nil pass0 (pa_cons (pv 0) pa_nil)))
      (pss_cons (ps_set (i := 3) sc_read_plain.nd rfl (Or.inl rfl) pe_str)
      (pss_cons (ps_set (i := 4) sc_read_plain.nd rfl (Or.inl rfl) pe_int)
      (pss_cons (ps_set (i := 5) sc_read_plain.nd rfl (Or.inl rfl) (pe_glob (v := .str (Str.ofString ".")) (by rfl) T.c_LIGHT ⟨_, rfl⟩))
      (pss_cons (ps_while (passes_of rfl) (pt_cmpR op_lt (pe_callB call_len_str (by rfl) T.z_len PySem.boot_len (pa_cons (pv 3) pa_nil)) (pv 0) (nomark _))
      (pss_cons (ps_set (i := 6) sc_read_plain.nd rfl (Or.inl rfl) (pe_callS G_read_by (hr.mono (by decide)) (by rfl) T.g_read_by T.F_read_by.kp T.b_read_by (fun σ => passAt (takes_of rfl rfl rfl rfl) σ) (pa_cons (pe_dget (hu_of hr) (pv 2) (pv 5) (fun _ _ => rfl)) (pa_cons (pv 1) (pa_cons (pv 4) pa_nil)))))
      (pss_cons (ps_if (PW.pt (pw_and (pt_cmpR op_eq (pv 6) pe_int (nomark _)) (pw_and1 (pt_cmpR op_gt (pv 4) pe_int (nomark _)))))
      (pss_one (ps_raise rfl (takes_of rfl rfl rfl rfl) (pmk_own PySem.F.excBase_ValueError T.xq_NoTelling T.xg_NoTelling T.xk_NoTelling (raises_own T.xs_NoTelling T.xt_NoTelling) (by rfl)))) pss_nil)
      (pss_cons (ps_if (pt_cmpR op_gt (pe_op op_add (pe_callB call_len_str (by rfl) T.z_len PySem.boot_len (pa_cons (pv 3) pa_nil)) (pv 6)) (pv 0) (nomark _))
      (pss_one (ps_raise rfl (takes_of rfl rfl rfl rfl) (pmk_own PySem.F.excBase_ValueError T.xq_NoTelling T.xg_NoTelling T.xk_NoTelling (raises_own T.xs_NoTelling T.xt_NoTelling) (by rfl)))) pss_nil)
      (pss_cons (ps_aug (i := 3) sc_read_plain.nd rfl (Or.inl rfl) (pe_op op_mul_str (pv 5) (pv 6)) iop_add_str)
      (pss_cons (ps_aug (i := 4) sc_read_plain.nd rfl (Or.inl rfl) (pe_callB call_len_str (by rfl) T.z_len PySem.boot_len (pa_cons (pe_ix (r := rIxL K) ix_list (pe_dget (hu_of hr) (pv 2) (pv 5) (fun _ _ => rfl)) (pv 6) (fun _ _ => rfl)) pa_nil)) iop_add)
      (pss_one (ps_set (i := 5) sc_read_plain.nd rfl (Or.inl rfl) (pe_call G_other_cell (hr.mono (by decide)) (by rfl) T.g_other_cell T.F_other_cell.kp T.b_other_cell .nil pass0 (pa_cons (pv 5) pa_nil))))))))))
      (pss_one (ps_ret (pe_tup (pa_cons (pv 3) (pa_cons (pv 4) pa_nil))))))))))), ?_⟩
    rcases h with ⟨no, qx⟩ | ⟨l, rfl, ll, qb, qn, qs⟩
    · refine ⟨_, rfl, v, rfl, .inl ⟨no, _, rfl, ?_⟩⟩
      exact qx
    refine ⟨_, rfl, _, rfl, .inr ⟨l, rfl, ll, _, rfl, ?_⟩⟩
    cases bl : isB l with
    | false => exact qb bl
    | true =>
    have qn := qn bl
    have qs := qs bl
    refine ⟨_, rfl, m, _, rfl, rfl, m1, hT, fun tp H1 e1 T1 hD => ?_⟩
    refine ⟨fun f σ H' => ∃ (row : List Nat) (a : Nat) (d : Bool) (y6 : Option V), σ = [some (.int (m : Int)), some (.str (sOf l)), some (.ref tp), some (.str (sOf row)), some (.int (a : Int)), some (.str (cellS d)), y6] ∧ Same H1 H' ∧ rdP tabW m l f row a d = rdL m l ∧ row.length ≤ m ∧ a ≤ l.length ∧ m + 1 ≤ row.length + f + (if a = 0 then 0 else 1),
      ⟨m + 1, [], 0, false, none, rfl, Same.refl _, rfl, Nat.zero_le _, Nat.zero_le _, by simp⟩, ?_⟩
    rintro f σ H2 ⟨row, a, d, y6, rfl, sm, hrd, lr, la, fu⟩
    have hlr : (sOf row).length ≤ sizeLine := by
      rw [sOf_len]
      exact sz (by omega)
    have e2 : LamX.ExtN H H2 := e1.trans (extN_of sm)
    have T2 := tabs_same T1 sm
    refine ⟨_, rfl, _, rfl, hlr, _, rfl, _, _, rfl, rfl, _, rfl, ?_⟩
    rw [sOf_len]
    by_cases z : row.length < m
    · refine iteD1 (by omega) ?_
      have f1 : 1 ≤ f := by
        revert fu
        split <;> omega
      obtain ⟨g, rfl⟩ : ∃ g, f = g + 1 := ⟨f - 1, by omega⟩
      obtain ⟨tq, dg, htq⟩ := (hD.ext (extN_of sm)).get d
      rw [rtab_map] at htq
      refine ⟨fun σ' H' => ∃ m', m' < g + 1 ∧ ∃ (row : List Nat) (a : Nat) (d : Bool) (y6 : Option V), σ' = [some (.int (m : Int)), some (.str (sOf l)), some (.ref tp), some (.str (sOf row)), some (.int (a : Int)), some (.str (cellS d)), y6] ∧ Same H1 H' ∧ rdP tabW m l m' row a d = rdL m l ∧ row.length ≤ m ∧ a ≤ l.length ∧ m + 1 ≤ row.length + m' + (if a = 0 then 0 else 1), fun σ' H' h => h, ?_⟩
      refine ⟨_, rfl, _, rfl, _, _, rfl, dg, _, rfl, _, rfl, tq, rtabL d m, l, a, _, rfl, rfl, htq, la, (fun r u hu pu H3 s3 => ?_), fun no H3 s3 => ?_⟩
      · obtain ⟨rm, rfl⟩ := rtabL_at hu
        have ra : runAt (tabW d) l a = some r := (runAt_some (pf_tab d)).mpr ⟨by omega, pu⟩
        have sm3 := sm.trans s3
        have e3 : LamX.ExtN H H3 := e1.trans (extN_of sm3)
        have T3 := tabs_same T1 sm3
        by_cases b : m < row.length + r ∨ (r = 0 ∧ 0 < a)
        · have bad := rdP_bad (W := tabW) (f := g) z ra b
          rw [hrd] at bad
          have qE := qn bad H3 e3 T3
          by_cases r0 : r = 0
          · refine ⟨_, rfl, rfl, _, rfl, iteD1 (vint.mpr (by omega)) ⟨_, rfl, _, _, rfl, rfl, _, rfl, ?_⟩⟩
            have a0 : 0 < a := by
              rcases b with y | y
              · omega
              · exact y.2
            exact iteD1 (by omega) qE
          · refine ⟨_, rfl, rfl, _, rfl, iteD0 (fun y => r0 (by have := vint.mp y; omega)) ?_⟩
            refine ⟨_, rfl, _, rfl, hlr, _, rfl, _, _, rfl, rfl, _, rfl, _, _, rfl, rfl, _, rfl, ?_⟩
            rw [sOf_len]
            refine iteD1 ?_ qE
            rcases b with y | y
            · omega
            · exact absurd y.1 r0
        · have go := rdP_step (W := tabW) (f := g) z ra b
          rw [hrd] at go
          have rp := runT_pos (pf_tab d) (r := r) (by omega)
          have lpu := pu.length_le
          rw [List.length_drop] at lpu
          have l24 := runT_len (d := d) (r := r) (by omega)
          obtain ⟨tq3, dg3, htq3⟩ := (hD.ext (extN_of sm3)).get d
          refine ⟨_, rfl, rfl, _, rfl, iteAndNo ?_ (fun y rest => ⟨_, rfl, _, _, rfl, rfl, _, rfl, iteD0 (fun a0 => b (.inr ⟨by have := vint.mp y; omega, by omega⟩)) rest⟩)⟩
          refine ⟨_, rfl, _, rfl, hlr, _, rfl, _, _, rfl, rfl, _, rfl, _, _, rfl, rfl, _, rfl, iteD0 (by rw [sOf_len]; intro y; exact b (.inl (by omega))) ?_⟩
          refine ⟨_, rfl, _, rfl, _, rfl, cellC d, _, (by rw [cellS_eq]), rfl, ⟨by omega, by omega⟩, _, _, rfl, rfl, ?_, ?_⟩
          · rw [sOf_len, sOf_len, List.length_replicate]
            exact sz (by omega)
          rw [sOf_app, Int.toNat_natCast]
          refine ⟨_, rfl, _, rfl, _, rfl, _, _, rfl, dg3, _, rfl, _, _, _, sV (runT (tabW d) r), rfl, rfl, SqL.of htq3, atI_nat (rtab_at rm), _, rfl, (by rw [sOf_len]; exact sz (by omega)), _, _, rfl, rfl, ?_⟩
          rw [sOf_len]
          refine ⟨_, rfl, cellC d, (by rw [cellS_eq]; rfl), ?_⟩
          rw [oth_cellC, ← cellS_eq]
          refine ⟨g, by omega, row ++ List.replicate r (cellC d), a + (runT (tabW d) r).length, !d, some (.int (r : Int)), rfl, sm3, go.symm, ?_, by omega, ?_⟩
          · rw [List.length_append, List.length_replicate]
            omega
          · rw [List.length_append, List.length_replicate, if_neg (by omega)]
            by_cases r0 : r = 0
            · have a0 : a = 0 := by
                rcases Nat.eq_zero_or_pos a with y | y
                · exact y
                · exact absurd (.inr ⟨r0, y⟩) b
              rw [if_pos a0] at fu
              omega
            · revert fu
              split <;> omega
      · have nn : runAt (tabW d) l a = none ∨ ∃ r, runAt (tabW d) l a = some r ∧ m < r := by
          cases q : runAt (tabW d) l a with
          | none => exact .inl rfl
          | some r =>
            have h := (runAt_some (pf_tab d)).mp q
            refine .inr ⟨r, rfl, ?_⟩
            rcases Nat.lt_or_ge m r with y | y
            · exact y
            · exact absurd h.2 (no r _ (rtabL_of y))
        have bad : rdL m l = none := by
          rw [← hrd]
          rcases nn with y | ⟨r, y, y2⟩
          · exact rdP_none z y
          · exact rdP_bad z y (.inl (by omega))
        exact qn bad H3 (e1.trans (extN_of (sm.trans s3))) (tabs_same T1 (sm.trans s3))
    · refine iteD0 (by omega) ?_
      rw [rdP_full (by omega)] at hrd
      refine ⟨_, rfl, _, rfl, (by show 2 ≤ sizeLine; decide), fun q hq => ?_⟩
      have s9 : Same H2 (upd H2 q (.tup [.str (sOf row), .int (a : Int)])) := same_new hq
      exact qs row a hrd.symm q _ (e2.trans (extN_of s9)) (tabs_same T2 s9) upd_same

--SPLIT
/-! ### steps told by bits -/
def thirdAt (L : List Nat) (a : Nat) : Option Nat := (List.range 9).find? fun k => (thirdW.getD k []).isPrefixOf (L.drop a)
theorem third_free : ∀ i, i < 9 → ∀ j, j < 9 → i ≠ j → ¬ thirdW.getD i [] <+: thirdW.getD j [] := by decide +kernel
theorem third_pos : ∀ i, i < 9 → 0 < (thirdW.getD i []).length := by decide +kernel
theorem third_same2 {i j : Nat} (hi : i < 9) (hj : j < 9) {M : List Nat} (h1 : thirdW.getD i [] <+: M) (h2 : thirdW.getD j [] <+: M) : i = j := by
  by_cases e : i = j
  · exact e
  · exfalso
    rcases Nat.le_total (thirdW.getD i []).length (thirdW.getD j []).length with z | z
    · exact third_free i hi j hj e (List.prefix_of_prefix_length_le h1 h2 z)
    · exact third_free j hj i hi (fun y => e y.symm) (List.prefix_of_prefix_length_le h2 h1 z)
theorem thirdAt_some {L : List Nat} {a k : Nat} : thirdAt L a = some k ↔ k < 9 ∧ thirdW.getD k [] <+: L.drop a := by
  constructor
  · intro e
    have h1 := List.find?_some e
    have h2 := List.mem_of_find?_eq_some e
    exact ⟨List.mem_range.mp h2, List.isPrefixOf_iff_prefix.mp h1⟩
  · rintro ⟨h1, h2⟩
    cases e : thirdAt L a with
    | none =>
      have := List.find?_eq_none.mp e k (List.mem_range.mpr h1)
      exact absurd (List.isPrefixOf_iff_prefix.mpr h2) (by simpa using this)
    | some s =>
      have h3 := List.find?_some e
      have h4 := List.mem_of_find?_eq_some e
      rw [third_same2 h1 (List.mem_range.mp h4) h2 (List.isPrefixOf_iff_prefix.mp h3)]
theorem thirdAt_none {L : List Nat} {a : Nat} : thirdAt L a = none ↔ ∀ k, k < 9 → ¬ thirdW.getD k [] <+: L.drop a := by
  unfold thirdAt
  rw [List.find?_eq_none]
  constructor
  · intro h r hr z
    exact absurd (List.isPrefixOf_iff_prefix.mpr z) (by simpa using h r (List.mem_range.mpr hr))
  · intro h r hr z
    exact h r (List.mem_range.mp hr) (List.isPrefixOf_iff_prefix.mp z)
def nearOf (k : Nat) : Int := [0, 1, -1, 9, 9, 2, -2, 3, -3].getD k 9
theorem nearOf_ix : ∀ k, k < 9 → k ≠ 3 → k ≠ 4 → nearIx (nearOf k) = k ∧ -3 ≤ nearOf k ∧ nearOf k ≤ 3 := by decide
theorem nearIx_of {d : Int} (h : -3 ≤ d ∧ d ≤ 3) : nearIx d ≠ 3 ∧ nearIx d ≠ 4 ∧ nearOf (nearIx d) = d := by
  have : d = -3 ∨ d = -2 ∨ d = -1 ∨ d = 0 ∨ d = 1 ∨ d = 2 ∨ d = 3 := by omega
  rcases this with rfl | rfl | rfl | rfl | rfl | rfl | rfl <;> decide
def w3 : Nat := (thirdW.getD 3 []).length
def stD (c : Nat) (L : List Nat) (a : Nat) : Option Stp := match thirdAt L a with
  | none => none
  | some k => if k = 3 then (match runAt (tabW (dOf c)) L (a + w3) with
      | none => none
      | some x => (match runAt (tabW (!dOf c)) L (a + w3 + (runT (tabW (dOf c)) x).length) with
        | none => none
        | some y => some (.plain x y)))
    else if k = 4 then some .passed else some (.near (nearOf k))
theorem stD_none {c : Nat} {L : List Nat} {a : Nat} (h : thirdAt L a = none) : stD c L a = none := by
  unfold stD
  rw [h]
theorem stD_near {c : Nat} {L : List Nat} {a k : Nat} (h : thirdAt L a = some k) (h3 : k ≠ 3) (h4 : k ≠ 4) : stD c L a = some (.near (nearOf k)) := by
  unfold stD
  rw [h]
  show (if _ then _ else _) = _
  rw [if_neg h3, if_neg h4]
theorem stD_passed {c : Nat} {L : List Nat} {a : Nat} (h : thirdAt L a = some 4) : stD c L a = some .passed := by
  unfold stD
  rw [h]
  rfl
theorem stD_plain {c : Nat} {L : List Nat} {a : Nat} (h : thirdAt L a = some 3) : stD c L a = (match runAt (tabW (dOf c)) L (a + w3) with
      | none => none
      | some x => (match runAt (tabW (!dOf c)) L (a + w3 + (runT (tabW (dOf c)) x).length) with
        | none => none
        | some y => some (.plain x y))) := by
  unfold stD
  rw [h]
  rfl
theorem plain_pref {c : Nat} {L : List Nat} {a x y : Nat} : stpB c (.plain x y) <+: L.drop a ↔ thirdW.getD 3 [] <+: L.drop a ∧ runT (tabW (dOf c)) x <+: L.drop (a + w3) ∧ runT (tabW (!dOf c)) y <+: L.drop (a + w3 + (runT (tabW (dOf c)) x).length) := by
  show thirdW.getD 3 [] ++ runT (tabW (dOf c)) x ++ runT (tabW (!dOf c)) y <+: L.drop a ↔ _
  rw [pref_tail, pref_tail, List.drop_drop, List.drop_drop, List.length_append, ← Nat.add_assoc, and_assoc]
  rfl
theorem codT {n : Nat} (hn : n ≤ 79) : Cod n stpB stD where
  pre := by
    intro c L a st hc e
    cases h : thirdAt L a with
    | none =>
      rw [stD_none h] at e
      cases e
    | some k =>
      have hk := thirdAt_some.mp h
      by_cases h3 : k = 3
      · subst h3
        rw [stD_plain h] at e
        cases h1 : runAt (tabW (dOf c)) L (a + w3) with
        | none =>
          rw [h1] at e
          cases e
        | some x =>
          rw [h1] at e
          have e : (match runAt (tabW (!dOf c)) L (a + w3 + (runT (tabW (dOf c)) x).length) with | none => none | some y => some (Stp.plain x y)) = some st := e
          cases h2 : runAt (tabW (!dOf c)) L (a + w3 + (runT (tabW (dOf c)) x).length) with
          | none =>
            rw [h2] at e
            cases e
          | some y =>
            rw [h2] at e
            cases e
            exact plain_pref.mpr ⟨hk.2, ((runAt_some (pf_tab _)).mp h1).2, ((runAt_some (pf_tab _)).mp h2).2⟩
      · by_cases h4 : k = 4
        · subst h4
          rw [stD_passed h] at e
          cases e
          exact hk.2
        · rw [stD_near h h3 h4] at e
          cases e
          show thirdW.getD (nearIx (nearOf k)) [] <+: _
          rw [(nearOf_ix k hk.1 h3 h4).1]
          exact hk.2
  get := by
    intro c L a st hc ok h
    cases st with
    | passed => exact stD_passed (thirdAt_some.mpr ⟨by decide, h⟩)
    | near d =>
      have q := nearIx_of ok
      rw [stD_near (thirdAt_some.mpr ⟨nearIx_lt d, h⟩) q.1 q.2.1, q.2.2]
    | plain x y =>
      have ok : x ≤ n ∧ y ≤ n := ok
      obtain ⟨p1, p2, p3⟩ := plain_pref.mp h
      rw [stD_plain (thirdAt_some.mpr ⟨by decide, p1⟩), (runAt_some (pf_tab _)).mpr ⟨by omega, p2⟩]
      show (match runAt (tabW (!dOf c)) L (a + w3 + (runT (tabW (dOf c)) x).length) with | none => none | some y => some (Stp.plain x y)) = _
      rw [(runAt_some (pf_tab _)).mpr ⟨by omega, p3⟩]
theorem stpB_pos (c : Nat) (st : Stp) : 0 < (stpB c st).length := by
  cases st with
  | passed => exact third_pos 4 (by decide)
  | near d => exact third_pos _ (nearIx_lt d)
  | plain x y =>
    show 0 < (thirdW.getD 3 [] ++ _ ++ _).length
    rw [List.length_append, List.length_append]
    have := third_pos 3 (by decide)
    omega
theorem okStep_of {m : Nat} {st : Stp} (h : okSt m st) : okStep m st := by
  cases st with
  | passed => exact trivial
  | near d => exact h
  | plain a b => exact h
/-! ### steps held against one another -/
def stP : Stp → List PyData
  | .passed => [.str (Str.ofString "passed")]
  | .near d => [.str (Str.ofString "near"), .int d]
  | .plain a b => [.str (Str.ofString "plain"), .int (a : Int), .int (b : Int)]
theorem dp_st {H : Hp} : ∀ st : Stp, DpAll K H (stV st) (stP st)
  | .passed => .cons (.str _) .nil
  | .near d => .cons (.str _) (.cons (.int _) .nil)
  | .plain a b => .cons (.str _) (.cons (.int _) (.cons (.int _) .nil))
theorem shaped_st : ∀ st : Stp, SeqAt.shaped (.tuple (stP st)) = true
  | .passed => by decide +kernel
  | .near d => by
    show (PyData.canLay0 (.tuple (stP (.near d))) && decide (PyData.depth (.tuple (stP (.near d))) ≤ 64)) = true
    have h : PyData.strOk (Str.ofString "near") = true := by decide +kernel
    unfold stP
    simp only [PyData.canLay0, PyData.canLayAll0, PyData.depth, PyData.depthAll, h]
    rfl
  | .plain a b => by
    show (PyData.canLay0 (.tuple (stP (.plain a b))) && decide (PyData.depth (.tuple (stP (.plain a b))) ≤ 64)) = true
    have h : PyData.strOk (Str.ofString "plain") = true := by decide +kernel
    unfold stP
    simp only [PyData.canLay0, PyData.canLayAll0, PyData.depth, PyData.depthAll, h]
    rfl
theorem eqv_st (s t : Stp) : PyData.eqv (.tuple (stP s)) (.tuple (stP t)) = decide (s = t) := by
  have pn : ((Str.ofString "passed" == Str.ofString "near") = false) := by decide +kernel
  have pp : ((Str.ofString "passed" == Str.ofString "plain") = false) := by decide +kernel
  have np : ((Str.ofString "near" == Str.ofString "plain") = false) := by decide +kernel
  have nps : ((Str.ofString "near" == Str.ofString "passed") = false) := by decide +kernel
  have pls : ((Str.ofString "plain" == Str.ofString "passed") = false) := by decide +kernel
  have pln : ((Str.ofString "plain" == Str.ofString "near") = false) := by decide +kernel
  cases s with
  | passed =>
    cases t with
    | passed => decide +kernel
    | near d =>
      simp only [stP, PyData.eqv, PyData.eqvAll, pn, Bool.false_and]
      rfl
    | plain a b =>
      simp only [stP, PyData.eqv, PyData.eqvAll, pp, Bool.false_and]
      rfl
  | near d =>
    cases t with
    | passed =>
      simp only [stP, PyData.eqv, PyData.eqvAll, nps, Bool.false_and]
      rfl
    | near d2 =>
      simp only [stP, PyData.eqv, PyData.eqvAll, beq_self_eq_true, Bool.true_and, Bool.and_true, Stp.near.injEq]
      rw [Bool.eq_iff_iff, beq_iff_eq, decide_eq_true_eq]
    | plain a b =>
      simp only [stP, PyData.eqv, PyData.eqvAll, np, Bool.false_and]
      rfl
  | plain x y =>
    cases t with
    | passed =>
      simp only [stP, PyData.eqv, PyData.eqvAll, pls, Bool.false_and]
      rfl
    | near d2 =>
      simp only [stP, PyData.eqv, PyData.eqvAll, pln, Bool.false_and]
      rfl
    | plain a b =>
      simp only [stP, PyData.eqv, PyData.eqvAll, beq_self_eq_true, Bool.true_and, Bool.and_true, Stp.plain.injEq]
      rw [Bool.eq_iff_iff, Bool.and_eq_true, beq_iff_eq, beq_iff_eq, decide_eq_true_eq]
      omega

/-! ### a step read -/
theorem thirdW_at {r : Nat} {u : List Nat} (h : thirdW[r]? = some u) : r < 9 ∧ u = thirdW.getD r [] := by
  have h1 := (List.getElem?_eq_some_iff.mp h).1
  rw [third_len] at h1
  refine ⟨h1, ?_⟩
  rw [List.getD_eq_getElem?_getD, h]
  rfl
theorem thirdW_of {r : Nat} (h : r < 9) : thirdW[r]? = some (thirdW.getD r []) := by
  rw [List.getD_eq_getElem?_getD, List.getElem?_eq_getElem (by rw [third_len]; exact h)]
  rfl
def spReadStep (K : PySem.W.Frag) (C : Addr) : Sp := fun vs H Q E => ∃ (wq tq : Addr) (c : Nat) (l : List Nat) (a m : Nat) (x : Int), vs = [.ref wq, .ref tq, .str (sOf [c]), .str (sOf l), .int x] ∧ x = a ∧ H wq = some (.lst (thirdW.map sV)) ∧ TabD H tq m ∧ m ≤ 64 ∧ Cell c ∧ a ≤ l.length ∧
  (∀ st, stD c l a = some st → okStep m st → ∀ q H', Same H H' → SqT K H' q (stV st) → Q (.ref q) H') ∧ ((∀ st, stD c l a = some st → ¬ okStep m st) → ∀ H', Same H H' → E (.ref C) none H')
theorem ok_read_step {A : Ad} (T : Txt w K mg base A) : FnOk P w K mg base (L2.CX P w) 2 A.a_read_step A.d_read_step P_read_step (spReadStep K A.x_NoTelling) := by
  have G_read_by := ok_read_by (P := P) (w := w) (base := base) T
  have G_other_cell := ok_other_cell (P := P) (w := w) (base := base) T
  refine T.F_read_step.okX sc_read_step (fun vs H Q E h => ?_) (fun cdv Ar outer s H vs Q E hr h => ?_)
  · obtain ⟨wq, tq, c, l, a, m, x, rfl, _⟩ := h
    rfl
  · obtain ⟨wq, tq, c, l, a, m, _, rfl, rfl, hw, hTD, m64, hc, al, q, qx⟩ := h
    refine ⟨_, (pss_cons (ps_set (i := 5) sc_read_step.nd rfl (Or.inl rfl) (pe_callS G_read_by (hr.mono (by decide)) (by rfl) T.g_read_by T.F_read_by.kp T.b_read_by (fun σ => passAt (takes_of rfl rfl rfl rfl) σ) (pa_cons (pv 0) (pa_cons (pv 3) (pa_cons (pv 4) pa_nil)))))
      (pss_cons (ps_set (i := 6) sc_read_step.nd rfl (Or.inl rfl) (pe_ix (r := rIxT K) ix_tup (pe_glob (v := .ref A.t_STEPS) (by rfl) T.c_STEPS rfl) (pv 5) (fun _ _ => rfl)))
      (pss_cons (ps_if (pt_cmpR op_ne (pe_ix (r := rIxT K) ix_tup (pv 6) pe_int (fun _ _ => rfl)) pe_str (nomark _))
      (pss_one (ps_ret (pv 6))) pss_nil)
      (pss_cons (ps_aug (i := 4) sc_read_step.nd rfl (Or.inl rfl) (pe_callB call_len_str (by rfl) T.z_len PySem.boot_len (pa_cons (pe_ix (r := rIxL K) ix_list (pv 0) (pv 5) (fun _ _ => rfl)) pa_nil)) iop_add)
      (pss_cons (ps_set (i := 7) sc_read_step.nd rfl (Or.inl rfl) (pe_callS G_read_by (hr.mono (by decide)) (by rfl) T.g_read_by T.F_read_by.kp T.b_read_by (fun σ => passAt (takes_of rfl rfl rfl rfl) σ) (pa_cons (pe_dget (hu_of hr) (pv 1) (pv 2) (fun _ _ => rfl)) (pa_cons (pv 3) (pa_cons (pv 4) pa_nil)))))
      (pss_cons (ps_aug (i := 4) sc_read_step.nd rfl (Or.inl rfl) (pe_callB call_len_str (by rfl) T.z_len PySem.boot_len (pa_cons (pe_ix (r := rIxL K) ix_list (pe_dget (hu_of hr) (pv 1) (pv 2) (fun _ _ => rfl)) (pv 7) (fun _ _ => rfl)) pa_nil)) iop_add)
      (pss_one (ps_ret (pe_tup (pa_cons pe_str (pa_cons (pv 7) (pa_cons (pe_callS G_read_by (hr.mono (by decide)) (by rfl) T.g_read_by T.F_read_by.kp T.b_read_by (fun σ => passAt (takes_of rfl rfl rfl rfl) σ) (pa_cons (pe_dget (hu_of hr) (pv 1) (pe_call G_other_cell (hr.mono (by decide)) (by rfl) T.g_other_cell T.F_other_cell.kp T.b_other_cell .nil pass0 (pa_cons (pv 2) pa_nil)) (fun _ _ => rfl)) (pa_cons (pv 3) (pa_cons (pv 4) pa_nil)))) pa_nil)))))))))))), ?_⟩
    refine ⟨_, rfl, _, rfl, _, rfl, wq, thirdW, l, a, _, rfl, rfl, hw, al, (fun r u hu pu H1 s1 => ?_), fun no H1 s1 => ?_⟩
    · obtain ⟨r9, rfl⟩ := thirdW_at hu
      have ta : thirdAt l a = some r := thirdAt_some.mpr ⟨r9, pu⟩
      have key : ∃ v xs, atI [V.ref A.v_STEPS_0, V.ref A.v_STEPS_1, V.ref A.v_STEPS_2, V.ref A.v_STEPS_3, V.ref A.v_STEPS_4, V.ref A.v_STEPS_5, V.ref A.v_STEPS_6, V.ref A.v_STEPS_7, V.ref A.v_STEPS_8] (r : Int) = some (.ref v) ∧ SqT K H1 v xs ∧ ((r = 3 ∧ xs = [.str (Str.ofString "plain")]) ∨ ∃ st w, stD c l a = some st ∧ okStep m st ∧ xs = stV st ∧ atI xs 0 = some (.str w) ∧ w ≠ Str.ofString "plain") := by
        rcases r with _ | _ | _ | _ | _ | _ | _ | _ | _ | r
        · exact ⟨A.v_STEPS_0, _, rfl, T.S_STEPS_0 H1, .inr ⟨_, _, stD_near ta (by decide) (by decide), ⟨by decide, by decide⟩, rfl, rfl, by decide⟩⟩
        · exact ⟨A.v_STEPS_1, _, rfl, T.S_STEPS_1 H1, .inr ⟨_, _, stD_near ta (by decide) (by decide), ⟨by decide, by decide⟩, rfl, rfl, by decide⟩⟩
        · exact ⟨A.v_STEPS_2, _, rfl, T.S_STEPS_2 H1, .inr ⟨_, _, stD_near ta (by decide) (by decide), ⟨by decide, by decide⟩, rfl, rfl, by decide⟩⟩
        · exact ⟨A.v_STEPS_3, _, rfl, T.S_STEPS_3 H1, .inl ⟨rfl, rfl⟩⟩
        · exact ⟨A.v_STEPS_4, _, rfl, T.S_STEPS_4 H1, .inr ⟨.passed, _, stD_passed ta, trivial, rfl, rfl, by decide⟩⟩
        · exact ⟨A.v_STEPS_5, _, rfl, T.S_STEPS_5 H1, .inr ⟨_, _, stD_near ta (by decide) (by decide), ⟨by decide, by decide⟩, rfl, rfl, by decide⟩⟩
        · exact ⟨A.v_STEPS_6, _, rfl, T.S_STEPS_6 H1, .inr ⟨_, _, stD_near ta (by decide) (by decide), ⟨by decide, by decide⟩, rfl, rfl, by decide⟩⟩
        · exact ⟨A.v_STEPS_7, _, rfl, T.S_STEPS_7 H1, .inr ⟨_, _, stD_near ta (by decide) (by decide), ⟨by decide, by decide⟩, rfl, rfl, by decide⟩⟩
        · exact ⟨A.v_STEPS_8, _, rfl, T.S_STEPS_8 H1, .inr ⟨_, _, stD_near ta (by decide) (by decide), ⟨by decide, by decide⟩, rfl, rfl, by decide⟩⟩
        · omega
      obtain ⟨v, xs, hv, sq, hcase⟩ := key
      refine ⟨_, rfl, _, _, _, .ref v, rfl, rfl, T.S_STEPS H1, hv, ?_⟩
      rcases hcase with ⟨rfl, rfl⟩ | ⟨st, wd, e1, e2, rfl, e4, e5⟩
      · refine ⟨_, rfl, _, _, _, _, rfl, rfl, sq, atI_nat (j := 0) rfl, rfl, _, rfl, iteN0 rfl ?_⟩
        have w3l := (third_at (j := 3) (by decide)).2
        have hw1 := s1 _ _ hw
        have lp := pu.length_le
        rw [List.length_drop] at lp
        have lw : w3 ≤ l.length - a := lp
        refine ⟨_, rfl, _, rfl, _, rfl, _, _, _, sV (thirdW.getD 3 []), rfl, rfl, SqL.of hw1, atI_nat (third_at (j := 3) (by decide)).1, _, rfl, (by rw [sOf_len]; exact sz (by omega)), _, _, rfl, rfl, ?_⟩
        have ea : (a : Int) + ((sOf (thirdW.getD 3 [])).length : Int) = ((a + w3 : Nat) : Int) := by
          rw [sOf_len]
          rfl
        have hTD1 := hTD.ext (extN_of s1)
        obtain ⟨q0, d0, g0⟩ := hTD1.get (dOf c)
        rw [rtab_map] at g0
        have sp := stD_plain (c := c) ta
        refine ⟨_, rfl, _, rfl, _, _, rfl, (by rw [cell_str hc]; exact d0), _, rfl, _, rfl, q0, rtabL (dOf c) m, l, a + w3, _, rfl, ea, g0, by omega, (fun x u hu pu1 H2 s2 => ?_), fun no H2 s2 => ?_⟩
        · obtain ⟨xm, rfl⟩ := rtabL_at hu
          have r1 : runAt (tabW (dOf c)) l (a + w3) = some x := (runAt_some (pf_tab _)).mpr ⟨by omega, pu1⟩
          rw [r1] at sp
          have sp : stD c l a = (match runAt (tabW (!dOf c)) l (a + w3 + (runT (tabW (dOf c)) x).length) with | none => none | some y => some (Stp.plain x y)) := sp
          have lp1 := pu1.length_le
          rw [List.length_drop] at lp1
          have x24 := runT_len (d := dOf c) (r := x) (by omega)
          have s12 := s1.trans s2
          have hTD2 := hTD.ext (extN_of s12)
          obtain ⟨q2, d2, g2⟩ := hTD2.get (dOf c)
          obtain ⟨q3, d3, g3⟩ := hTD2.get (!dOf c)
          rw [rtab_map] at g3
          refine ⟨_, rfl, _, rfl, _, rfl, _, _, rfl, (by rw [cell_str hc]; exact d2), _, rfl, _, _, _, sV (runT (tabW (dOf c)) x), rfl, rfl, SqL.of g2, atI_nat (rtab_at xm), _, rfl, (by rw [sOf_len]; exact sz (by omega)), _, _, rfl, rfl, ?_⟩
          have ea2 : ((a : Int) + ((sOf (thirdW.getD 3 [])).length : Int)) + ((sOf (runT (tabW (dOf c)) x)).length : Int) = ((a + w3 + (runT (tabW (dOf c)) x).length : Nat) : Int) := by
            rw [ea, sOf_len]
            rfl
          refine ⟨_, rfl, _, rfl, _, rfl, c, rfl, _, _, rfl, (by rw [oth_str hc]; exact d3), _, rfl, _, rfl, q3, rtabL (!dOf c) m, l, a + w3 + (runT (tabW (dOf c)) x).length, _, rfl, ea2, g3, by omega, (fun y u hu2 pu2 H3 s3 => ?_), fun no H3 s3 => ?_⟩
          · obtain ⟨ym, rfl⟩ := rtabL_at hu2
            rw [(runAt_some (pf_tab _)).mpr ⟨by omega, pu2⟩] at sp
            have sp : stD c l a = some (.plain x y) := sp
            refine ⟨(by show 3 ≤ sizeLine; decide), fun p hp => ?_⟩
            exact q (.plain x y) sp ⟨xm, ym⟩ p _ ((s12.trans s3).trans (same_new hp)) (SqT.of upd_same)
          · refine qx (fun st e ok => ?_) H3 (s12.trans s3)
            cases r2 : runAt (tabW (!dOf c)) l (a + w3 + (runT (tabW (dOf c)) x).length) with
            | none =>
              rw [r2] at sp
              rw [sp] at e
              cases e
            | some y =>
              rw [r2] at sp
              rw [sp] at e
              cases e
              exact no y _ (rtabL_of ok.2) ((runAt_some (pf_tab _)).mp r2).2
        · refine qx (fun st e ok => ?_) H2 (s1.trans s2)
          cases r1 : runAt (tabW (dOf c)) l (a + w3) with
          | none =>
            rw [r1] at sp
            rw [sp] at e
            cases e
          | some x =>
            rw [r1] at sp
            have sp : stD c l a = (match runAt (tabW (!dOf c)) l (a + w3 + (runT (tabW (dOf c)) x).length) with | none => none | some y => some (Stp.plain x y)) := sp
            cases r2 : runAt (tabW (!dOf c)) l (a + w3 + (runT (tabW (dOf c)) x).length) with
            | none =>
              rw [r2] at sp
              rw [sp] at e
              cases e
            | some y =>
              rw [r2] at sp
              rw [sp] at e
              cases e
              exact no x _ (rtabL_of ok.1) ((runAt_some (pf_tab _)).mp r1).2
      · refine ⟨_, rfl, _, _, _, _, rfl, rfl, sq, e4, rfl, _, rfl, iteN1 (ne_word' e5) ?_⟩
        exact ⟨_, rfl, q st e1 e2 v H1 s1 sq⟩
    · refine qx (fun st e => ?_) H1 s1
      rw [stD_none (thirdAt_none.mpr fun k hk => no k _ (thirdW_of hk))] at e
      cases e
/-! ### the row behind a step -/
theorem led_bounds {ab : List Nat} {s c : Nat} {st : Stp} (hs : s ≤ ab.length) (h64 : ab.length ≤ 64) (ok : okStep ab.length st) : -10 ≤ ledT ab s c st ∧ ledT ab s c st ≤ 1000 := by
  have h1 := fch_le (c := c) hs
  have h2 := stC_ge (c := c) hs
  cases st with
  | passed =>
    show -10 ≤ (stC ab s c : Int) ∧ (stC ab s c : Int) ≤ 1000
    omega
  | near d =>
    have ok : -3 ≤ d ∧ d ≤ 3 := ok
    show -10 ≤ (fch ab s c : Int) + d ∧ (fch ab s c : Int) + d ≤ 1000
    omega
  | plain x y =>
    have ok : x ≤ ab.length ∧ y ≤ ab.length := ok
    show -10 ≤ ((s - 1 : Nat) : Int) + (x : Int) + (y : Int) ∧ ((s - 1 : Nat) : Int) + (x : Int) + (y : Int) ≤ 1000
    omega
theorem ext_le {ab : List Nat} {s c k : Nat} {st : Stp} (hs : s ≤ ab.length) (h64 : ab.length ≤ 64) (ok : okStep ab.length st) : (ext ab s c st k).length ≤ 1000 := by
  have b := led_bounds (c := c) hs h64 ok
  cases st with
  | passed =>
    show (List.replicate _ c).length ≤ 1000
    rw [List.length_replicate]
    omega
  | near d =>
    show (List.replicate _ c).length ≤ 1000
    rw [List.length_replicate]
    omega
  | plain x y =>
    have ok : x ≤ ab.length ∧ y ≤ ab.length := ok
    show (List.replicate x c ++ List.replicate y (oth c)).length ≤ 1000
    rw [List.length_append, List.length_replicate, List.length_replicate]
    omega
def spRowB (K : PySem.W.Frag) (C : Addr) : Sp := fun vs H Q E => ∃ (ab row : List Nat) (s c : Nat) (x : Int) (a : Addr) (st : Stp), vs = [.str (sOf ab), .str (sOf row), .int x, .str (sOf [c]), .ref a] ∧ x = (s : Int) - 1 ∧ s ≤ ab.length ∧ ab.length ≤ 64 ∧ Cell c ∧ row.length ≤ 64 ∧ okStep ab.length st ∧ SqT K H a (stV st) ∧
  (stepAt ab (fillR ab.length (row ++ ext ab s c st row.length) (colB c st)) s c = st → ∀ H', Same H H' → Q (.str (sOf (row ++ ext ab s c st row.length))) H') ∧
  (stepAt ab (fillR ab.length (row ++ ext ab s c st row.length) (colB c st)) s c ≠ st → ∀ H', Same H H' → E (.ref C) none H')
theorem ok_row_behind {A : Ad} (T : Txt w K mg base A) : FnOk P w K mg base (L2.CX P w) 4 A.a_row_behind A.d_row_behind P_row_behind (spRowB K A.x_NoTelling) := by
  have G_step_at := ok_step_at (P := P) (w := w) (base := base) T
  have G_colour_behind := ok_colour_behind (P := P) (w := w) (base := base) T
  have G_other_cell := ok_other_cell (P := P) (w := w) (base := base) T
  have G_led_to := ok_led_to (P := P) (w := w) (base := base) T
  refine T.F_row_behind.okX sc_row_behind (fun vs H Q E h => ?_) (fun cdv Ar outer s H vs Q E hr h => ?_)
  · obtain ⟨ab, row, s, c, x, a, st, rfl, _⟩ := h
    rfl
  · obtain ⟨ab, row, sp, c, _, a, st, rfl, rfl, hs, l64, hc, lr, ok, ha, q, qx⟩ := h
    refine ⟨_, (Evl.pss_cut (ps_if (pt_cmpR op_eq (pe_ix (r := rIxT K) ix_tup (pv 4) pe_int (fun _ _ => rfl)) pe_str (nomark _))
      (pss_one (ps_aug (i := 1) sc_row_behind.nd rfl (Or.inl rfl) (pe_op op_add_str (pe_op op_mul_str (pv 3) (pe_ix (r := rIxT K) ix_tup (pv 4) pe_int (fun _ _ => rfl))) (pe_op op_mul_str (pe_call G_other_cell (hr.mono (by decide)) (by rfl) T.g_other_cell T.F_other_cell.kp T.b_other_cell .nil pass0 (pa_cons (pv 3) pa_nil)) (pe_ix (r := rIxT K) ix_tup (pv 4) pe_int (fun _ _ => rfl)))) iop_add_str)) (pss_one (ps_aug (i := 1) sc_row_behind.nd rfl (Or.inl rfl) (pe_op op_mul_str (pv 3) (pe_op op_sub (pe_call G_led_to (hr.mono (by decide)) (by rfl) T.g_led_to T.F_led_to.kp T.b_led_to .nil pass0 (pa_cons (pv 0) (pa_cons (pv 2) (pa_cons (pv 3) (pa_cons (pv 4) pa_nil))))) (pe_callB call_len_str (by rfl) T.z_len PySem.boot_len (pa_cons (pv 1) pa_nil)))) iop_add_str)))
      (pss_cons (ps_set (i := 5) sc_row_behind.nd rfl (Or.inl rfl) (pe_slice sl_str (pe_bm PySem.F.plainAttrs_str PySem.F.slot_str_ljust PySem.F.type_str_ljust mt_ljustF (pv 1) (pa_cons (pe_callB call_len_str (by rfl) T.z_len PySem.boot_len (pa_cons (pv 0) pa_nil)) (pa_cons (pe_call G_colour_behind (hr.mono (by decide)) (by rfl) T.g_colour_behind T.F_colour_behind.kp T.b_colour_behind .nil pass0 (pa_cons (pv 3) (pa_cons (pv 4) pa_nil))) pa_nil))) po_none (po_some (pe_callB call_len_str (by rfl) T.z_len PySem.boot_len (pa_cons (pv 0) pa_nil)))))
      (Evl.pss_cut (ps_if (pt_cmpR (op_neD hr.units) (pe_call G_step_at (hr.mono (by decide)) (by rfl) T.g_step_at T.F_step_at.kp T.b_step_at .nil pass0 (pa_cons (pv 0) (pa_cons (pv 5) (pa_cons (pv 2) (pa_cons (pv 3) pa_nil))))) (pv 4) (nomark _))
      (pss_one (ps_raise rfl (takes_of rfl rfl rfl rfl) (pmk_own PySem.F.excBase_ValueError T.xq_NoTelling T.xg_NoTelling T.xk_NoTelling (raises_own T.xs_NoTelling T.xt_NoTelling) (by rfl)))) pss_nil)
      (pss_one (ps_ret (pv 1)))))), ?_⟩
    have hla : (sOf ab).length ≤ sizeLine := by
      rw [sOf_len]
      exact sz (by omega)
    have hlr : (sOf row).length ≤ sizeLine := by
      rw [sOf_len]
      exact sz (by omega)
    have le := ext_le (c := c) (k := row.length) hs l64 ok
    have lb := led_bounds (c := c) hs l64 ok
    refine ⟨fun σ H' => σ = [some (.str (sOf ab)), some (.str (sOf (row ++ ext ab sp c st row.length))), some (.int ((sp : Int) - 1)), some (.str (sOf [c])), some (.ref a), none] ∧ H' = H, ?_, ?_⟩
    · cases st with
      | plain x y =>
        have ok : x ≤ ab.length ∧ y ≤ ab.length := ok
        refine ⟨_, rfl, _, _, _, _, rfl, rfl, ha, atI_nat (j := 0) rfl, rfl, _, rfl, iteD1 rfl ?_⟩
        refine ⟨_, rfl, _, rfl, _, rfl, _, _, _, .int (x : Int), rfl, rfl, ha, atI_nat (j := 1) rfl, c, _, rfl, rfl, ⟨by omega, by omega⟩, _, rfl, c, rfl, _, rfl, _, _, _, .int (y : Int), rfl, rfl, ha, atI_nat (j := 2) rfl, oth c, _, rfl, rfl, ⟨by omega, by omega⟩, _, _, rfl, rfl, ?_, ?_⟩
        · rw [sOf_len, sOf_len, List.length_replicate, List.length_replicate]
          exact sz (by omega)
        rw [Int.toNat_natCast, Int.toNat_natCast, sOf_app]
        refine ⟨_, _, rfl, rfl, ?_, ?_⟩
        · rw [sOf_len, sOf_len, List.length_append, List.length_replicate, List.length_replicate]
          exact sz (by omega)
        rw [sOf_app]
        exact ⟨rfl, rfl⟩
      | near d =>
        refine ⟨_, rfl, _, _, _, _, rfl, rfl, ha, atI_nat (j := 0) rfl, rfl, _, rfl, iteD0 (ne_word' (by decide)) ?_⟩
        refine ⟨_, rfl, _, rfl, _, rfl, _, rfl, _, rfl, _, rfl, ab, sp, c, _, a, .near d, rfl, rfl, hs, by omega, ha, _, rfl, _, rfl, hlr, _, _, rfl, rfl, c, _, rfl, rfl, ?_, ?_⟩
        · rw [sOf_len]
          constructor <;> omega
        rw [sOf_len]
        refine ⟨_, _, rfl, rfl, ?_, ?_⟩
        · have le : (List.replicate (ledT ab sp c (.near d) - (row.length : Int)).toNat c).length ≤ 1000 := le
          rw [sOf_len, sOf_len]
          exact sz (by omega)
        rw [sOf_app]
        exact ⟨rfl, rfl⟩
      | passed =>
        refine ⟨_, rfl, _, _, _, _, rfl, rfl, ha, atI_nat (j := 0) rfl, rfl, _, rfl, iteD0 (ne_word' (by decide)) ?_⟩
        refine ⟨_, rfl, _, rfl, _, rfl, _, rfl, _, rfl, _, rfl, ab, sp, c, _, a, .passed, rfl, rfl, hs, by omega, ha, _, rfl, _, rfl, hlr, _, _, rfl, rfl, c, _, rfl, rfl, ?_, ?_⟩
        · rw [sOf_len]
          constructor <;> omega
        rw [sOf_len]
        refine ⟨_, _, rfl, rfl, ?_, ?_⟩
        · have le : (List.replicate (ledT ab sp c .passed - (row.length : Int)).toNat c).length ≤ 1000 := le
          rw [sOf_len, sOf_len]
          exact sz (by omega)
        rw [sOf_app]
        exact ⟨rfl, rfl⟩
    · rintro σ H1 ⟨rfl, rfl⟩
      generalize hX : row ++ ext ab sp c st row.length = X at q qx
      have lX : X.length ≤ 1100 := by
        rw [← hX, List.length_append]
        omega
      refine ⟨_, rfl, rfl, _, rfl, _, rfl, hla, _, rfl, _, rfl, c, a, st, rfl, ha, X, _, colB c st, rfl, rfl, ⟨by omega, by rw [sOf_len]; omega⟩, ?_⟩
      rw [sOf_len, Int.toNat_natCast]
      refine ⟨_, rfl, _, rfl, hla, _, rfl, _, rfl, (by rw [sOf_len, List.length_append, List.length_replicate]; exact sz (by omega)), ?_⟩
      rw [sOf_len, cutS_upto]
      have eF : (X ++ List.replicate (ab.length - X.length) (colB c st)).take ab.length = fillR ab.length X (colB c st) := rfl
      rw [eF]
      have lF := fillR_len ab.length X (colB c st)
      generalize hF : fillR ab.length X (colB c st) = F at q qx lF
      refine ⟨fun σ H' => σ = [some (.str (sOf ab)), some (.str (sOf X)), some (.int ((sp : Int) - 1)), some (.str (sOf [c])), some (.ref a), some (.str (sOf F))] ∧ Same H1 H' ∧ stepAt ab F sp c = st, ?_, ?_⟩
      · refine ⟨_, rfl, _, rfl, _, rfl, _, rfl, ab, F, sp, c, _, rfl, rfl, by omega, by omega, by omega, fun q1 H2 nq1 s2 hq1 => ⟨_, rfl, _, _, .tup (SqT.of hq1) (dp_st _), .tup (same_t s2 ha) (dp_st st), shaped_st _, shaped_st st, _, rfl, ?_⟩⟩
        rw [eqv_st]
        by_cases z : stepAt ab F sp c = st
        · exact iteN0 z ⟨rfl, s2, z⟩
        · exact iteN1 z (qx z H2 s2)
      · rintro σ H2 ⟨rfl, s2, z⟩
        exact ⟨_, rfl, q z H2 s2⟩
/-! ### tellings by the row above read -/
def spReadAb (K : PySem.W.Frag) (p C : Addr) : Sp := fun vs H Q E => ∃ (v : V) (ab : List Nat), vs = [.str (sOf ab), v] ∧ ab.length ≤ 64 ∧ LamX.Tabs (TT p) H ∧
  ((NoTxt K H v ∧ E (.ref C) none H) ∨ ∃ l : List Nat, v = .str (sOf l) ∧ l.length ≤ 99000 ∧ (isB l = false → E (.ref C) none H) ∧
    (isB l = true → rdS stpB stD ab l = none → ∀ H', LamX.ExtN H H' → LamX.Tabs (TT p) H' → E (.ref C) none H') ∧
    (isB l = true → ∀ row a, rdS stpB stD ab l = some (row, a) → ∀ q H', LamX.ExtN H H' → LamX.Tabs (TT p) H' → H' q = some (.tup [.str (sOf row), .int (a : Int)]) → Q (.ref q) H'))
theorem okSt_of {m : Nat} {st : Stp} (h : okSt m st) : okStep m st := okStep_of h
theorem ok_read_above {A : Ad} (T : Txt w K mg base A) : FnOk P w K mg base (L2.CX P w) 6 A.a_read_above A.d_read_above P_read_above (spReadAb K A.p_making_order A.x_NoTelling) := by
  have G_words_by := ok_words_by (P := P) (w := w) (base := base) T
  have G_run_tables := ok_run_tables (P := P) (w := w) (base := base) T
  have G_is_bits := ok_is_bits (P := P) (w := w) (base := base) T
  have G_read_step := ok_read_step (P := P) (w := w) (base := base) T
  have G_row_behind := ok_row_behind (P := P) (w := w) (base := base) T
  have G_led_to := ok_led_to (P := P) (w := w) (base := base) T
  have G_colour_behind := ok_colour_behind (P := P) (w := w) (base := base) T
  have G_step_bits := ok_step_bits (P := P) (w := w) (base := base) T
  refine T.F_read_above.okX sc_read_above (fun vs H Q E h => ?_) (fun cdv Ar outer s H vs Q E hr h => ?_)
  · obtain ⟨v, ab, rfl, _⟩ := h
    rfl
  · obtain ⟨v, ab, rfl, n64, hT, h⟩ := h
    refine ⟨_, (pss_cons (ps_if (pt_not (pt_val (pe_call G_is_bits (hr.mono (by decide)) (by rfl) T.g_is_bits T.F_is_bits.kp T.b_is_bits .nil pass0 (pa_cons (pv 1) pa_nil))))
      (pss_one (ps_raise rfl (takes_of rfl rfl rfl rfl) (pmk_own PySem.F.excBase_ValueError T.xq_NoTelling T.xg_NoTelling T.xk_NoTelling (raises_own T.xs_NoTelling T.xt_NoTelling) (by rfl)))) pss_nil)
      (pss_cons (ps_set (i := 2) sc_read_above.nd rfl (Or.inl rfl) (pe_call G_words_by (hr.mono (by decide)) (by rfl) T.g_words_by T.F_words_by.kp T.b_words_by .nil pass0 (pa_cons (pe_callTy call_list_of (by rfl) T.z_list (by decide +kernel) (pa_cons (pe_glob (v := .ref A.t_LENGTHS_above) (by rfl) T.c_LENGTHS_above rfl) pa_nil)) pa_nil)))
      (pss_cons (ps_set (i := 3) sc_read_above.nd rfl (Or.inl rfl) (pe_call G_run_tables (hr.mono (by decide)) (by rfl) T.g_run_tables T.F_run_tables.kp T.b_run_tables .nil pass0 (pa_cons (pe_callB call_len_str (by rfl) T.z_len PySem.boot_len (pa_cons (pv 0) pa_nil)) pa_nil)))
      (pss_cons (ps_set (i := 4) sc_read_above.nd rfl (Or.inl rfl) pe_str)
      (pss_cons (ps_set (i := 5) sc_read_above.nd rfl (Or.inl rfl) pe_int)
      (pss_cons (ps_par (i := 6) (j := 7) (by rfl) sc_read_above.nd rfl rfl (by decide) rfl rfl (pa_cons (pe_glob (v := .int (-1)) (by rfl) T.c_AHEAD ⟨_, rfl⟩) (pa_cons (pe_glob (v := .str (Str.ofString ".")) (by rfl) T.c_LIGHT ⟨_, rfl⟩) pa_nil)) (by rfl))
      (pss_cons (ps_while (passes_of rfl) (pt_cmpR op_lt (pv 6) (pe_callB call_len_str (by rfl) T.z_len PySem.boot_len (pa_cons (pv 0) pa_nil)) (nomark _))
      (pss_cons (ps_set (i := 8) sc_read_above.nd rfl (Or.inl rfl) (pe_callS G_read_step (hr.mono (by decide)) (by rfl) T.g_read_step T.F_read_step.kp T.b_read_step (fun σ => passAt (takes_of rfl rfl rfl rfl) σ) (pa_cons (pv 2) (pa_cons (pv 3) (pa_cons (pv 7) (pa_cons (pv 1) (pa_cons (pv 5) pa_nil)))))))
      (pss_cons (ps_set (i := 4) sc_read_above.nd rfl (Or.inl rfl) (pe_callS G_row_behind (hr.mono (by decide)) (by rfl) T.g_row_behind T.F_row_behind.kp T.b_row_behind (fun σ => passAt (takes_of rfl rfl rfl rfl) σ) (pa_cons (pv 0) (pa_cons (pv 4) (pa_cons (pv 6) (pa_cons (pv 7) (pa_cons (pv 8) pa_nil)))))))
      (pss_cons (ps_aug (i := 5) sc_read_above.nd rfl (Or.inl rfl) (pe_callB call_len_str (by rfl) T.z_len PySem.boot_len (pa_cons (pe_call G_step_bits (hr.mono (by decide)) (by rfl) T.g_step_bits T.F_step_bits.kp T.b_step_bits .nil pass0 (pa_cons (pv 2) (pa_cons (pv 3) (pa_cons (pv 7) (pa_cons (pv 8) pa_nil))))) pa_nil)) iop_add)
      (pss_cons (ps_set (i := 6) sc_read_above.nd rfl (Or.inl rfl) (pe_call G_led_to (hr.mono (by decide)) (by rfl) T.g_led_to T.F_led_to.kp T.b_led_to .nil pass0 (pa_cons (pv 0) (pa_cons (pv 6) (pa_cons (pv 7) (pa_cons (pv 8) pa_nil))))))
      (pss_one (ps_set (i := 7) sc_read_above.nd rfl (Or.inl rfl) (pe_call G_colour_behind (hr.mono (by decide)) (by rfl) T.g_colour_behind T.F_colour_behind.kp T.b_colour_behind .nil pass0 (pa_cons (pv 7) (pa_cons (pv 8) pa_nil))))))))))
      (pss_one (ps_ret (pe_tup (pa_cons (pv 4) (pa_cons (pv 5) pa_nil)))))))))))), ?_⟩
    rcases h with ⟨no, qx⟩ | ⟨l, rfl, ll, qb, qn, qs⟩
    · refine ⟨_, rfl, v, rfl, .inl ⟨no, _, rfl, ?_⟩⟩
      exact qx
    refine ⟨_, rfl, _, rfl, .inr ⟨l, rfl, ll, _, rfl, ?_⟩⟩
    cases bl : isB l with
    | false => exact qb bl
    | true =>
    have qn := qn bl
    have qs := qs bl
    have hla : (sOf ab).length ≤ sizeLine := by
      rw [sOf_len]
      exact sz (by omega)
    refine ⟨_, _, rfl, .inr (T.S_LENGTHS_above H), fun lq hlq => ?_⟩
    have s1 := same_new (o := .lst (nvs thirdL)) hlq
    refine ⟨lq, thirdL, rfl, tabs_same hT s1, upd_same, by decide, by decide, (by decide +kernel), fun wq H1 e1 T1 fw hw => ?_⟩
    refine ⟨_, rfl, _, rfl, hla, ab.length, _, rfl, by rw [sOf_len], n64, T1, fun tq H2 e2 T2 hTD => ?_⟩
    have hw2 : H2 wq = some (.lst (thirdW.map sV)) := e2 _ _ hw (fun ps z => by cases z)
    have e02 : LamX.ExtN H H2 := ((extN_of s1).trans e1).trans e2
    have Cd := codT (n := ab.length) (by omega)
    refine ⟨_, _, rfl, ?_⟩
    refine ⟨fun f σ H' => ∃ (row : List Nat) (s c a : Nat) (y8 : Option V), σ = [some (.str (sOf ab)), some (.str (sOf l)), some (.ref wq), some (.ref tq), some (.str (sOf row)), some (.int (a : Int)), some (.int ((s : Int) - 1)), some (.str (sOf [c])), y8] ∧ Same H2 H' ∧ rdQ stpB stD ab l f row s c a = rdS stpB stD ab l ∧ row.length = s - 1 ∧ s ≤ ab.length + 1 ∧ a ≤ l.length ∧ Cell c ∧ ab.length + 1 ≤ f + s,
      ⟨ab.length + 1, [], 0, 46, 0, none, rfl, Same.refl _, rfl, rfl, by omega, Nat.zero_le _, .inl rfl, by omega⟩, ?_⟩
    rintro f σ H3 ⟨row, s, c, a, y8, rfl, sm, hrd, lr, hs, la, hc, fu⟩
    refine ⟨_, rfl, _, rfl, _, rfl, hla, _, _, rfl, rfl, _, rfl, ?_⟩
    rw [sOf_len]
    by_cases z : s ≤ ab.length
    · refine iteD1 (by omega) ?_
      obtain ⟨g, rfl⟩ : ∃ g, f = g + 1 := ⟨f - 1, by omega⟩
      refine ⟨fun σ' H' => ∃ m', m' < g + 1 ∧ ∃ (row : List Nat) (s c a : Nat) (y8 : Option V), σ' = [some (.str (sOf ab)), some (.str (sOf l)), some (.ref wq), some (.ref tq), some (.str (sOf row)), some (.int (a : Int)), some (.int ((s : Int) - 1)), some (.str (sOf [c])), y8] ∧ Same H2 H' ∧ rdQ stpB stD ab l m' row s c a = rdS stpB stD ab l ∧ row.length = s - 1 ∧ s ≤ ab.length + 1 ∧ a ≤ l.length ∧ Cell c ∧ ab.length + 1 ≤ m' + s, fun σ' H' h => h, ?_⟩
      have out : ∀ H', Same H2 H' → rdS stpB stD ab l = none → E (.ref A.x_NoTelling) none H' := fun H' s' e => qn e H' (e02.trans (extN_of s')) (tabs_same T2 s')
      refine ⟨_, rfl, _, rfl, _, rfl, _, rfl, _, rfl, wq, tq, c, l, a, ab.length, _, rfl, rfl, sm _ _ hw2, hTD.ext (extN_of sm), n64, hc, la, (fun st ed ok q1 H4 s4 sq4 => ?_), fun no H4 s4 => ?_⟩
      · have sm4 := sm.trans s4
        have pr := Cd.pre c l a st hc ed
        have lpu := pr.length_le
        rw [List.length_drop] at lpu
        have b60 := stpB_len (c := c) (okStep.mono ok n64)
        refine ⟨_, rfl, _, rfl, _, rfl, _, rfl, _, rfl, ab, row, s, c, _, q1, st, rfl, rfl, z, n64, hc, by omega, ok, sq4, (fun b H5 s5 => ?_), fun b H5 s5 => ?_⟩
        · have sm5 := sm4.trans s5
          have go := rdQ_step (B := stpB) (D := stD) (f := g) (row := row) z ed b
          rw [hrd] at go
          have sq5 := same_t s5 sq4
          refine ⟨_, rfl, _, rfl, _, rfl, _, rfl, _, rfl, wq, tq, c, q1, st, ab.length, rfl, sm5 _ _ hw2, hTD.ext (extN_of sm5), hc, sq5, ok, n64, fun H6 s6 => ?_⟩
          have sm6 := sm5.trans s6
          have sq6 := same_t s6 sq5
          refine ⟨_, rfl, (by rw [sOf_len]; exact sz (by omega)), _, _, rfl, rfl, ?_⟩
          rw [sOf_len]
          refine ⟨_, rfl, _, rfl, _, rfl, _, rfl, ab, s, c, _, q1, st, rfl, rfl, z, by omega, sq6, ?_⟩
          refine ⟨_, rfl, _, rfl, c, q1, st, rfl, sq6, ?_⟩
          have lt := ledT_step (ab := ab) (l := fillR ab.length (row ++ ext ab s c st row.length) (colB c st)) (c := c) (s := s) (by rw [fillR_len]; exact z)
          rw [b] at lt
          have rng := ledN_le (ab := ab) (l := fillR ab.length (row ++ ext ab s c st row.length) (colB c st)) (c := c) (s := s) (by rw [fillR_len]; exact z) (by rw [fillR_len])
          rw [fillR_len] at rng
          generalize ledN ab (fillR ab.length (row ++ ext ab s c st row.length) (colB c st)) s c = E1 at lt rng
          rw [lt] at go ⊢
          rw [Int.toNat_natCast] at go
          refine ⟨g, by omega, row ++ ext ab s c st row.length, E1 + 1, colB c st, a + (stpB c st).length, some (.ref q1), ?_, sm6, go.symm, ?_, by omega, by omega, colB_cell hc st, by omega⟩
          · have e9 : (E1 : Int) = ((E1 + 1 : Nat) : Int) - 1 := by omega
            show [_, _, _, _, _, _, some (V.int (E1 : Int)), _, _] = _
            rw [e9]
            rfl
          · rw [List.length_append, lr, ext_len lt (by omega)]
            omega
        · refine out H5 (sm4.trans s5) ?_
          rw [← hrd]
          exact rdQ_bad z ed b
      · refine out H4 (sm.trans s4) ?_
        rw [← hrd]
        cases ed : stD c l a with
        | none => exact rdQ_none z ed
        | some st =>
          refine rdQ_bad z ed (fun b => no st ed ?_)
          have := okSt_at (ab := ab) (l := fillR ab.length (row ++ ext ab s c st row.length) (colB c st)) (c := c) (s := s) (by rw [fillR_len]; exact z)
          rw [b, fillR_len] at this
          exact okStep_of this
    · refine iteD0 (by omega) ?_
      rw [rdQ_full (by omega)] at hrd
      refine ⟨_, rfl, _, rfl, (by show 2 ≤ sizeLine; decide), fun q hq => ?_⟩
      have s9 : Same H3 (upd H3 q (.tup [.str (sOf row), .int (a : Int)])) := same_new hq
      exact qs row a hrd.symm q _ ((e02.trans (extN_of sm)).trans (extN_of s9)) (tabs_same (tabs_same T2 sm) s9) upd_same

--SPLIT
/-! ### plain tellings read back -/
theorem plF_is : ∀ (rs : List Nat) (d : Bool), plF tabW rs d = plainF rs d
  | [], _ => rfl
  | r :: rs, d => by
    show runT (tabW d) r ++ plF tabW rs (!d) = runT (tabW d) r ++ plainF rs (!d)
    rw [plF_is rs (!d)]
theorem rd_back {l : List Nat} (rl : Row l) (l0 : 0 < l.length) (l1 : l.length ≤ 64) (m : List Nat) : rdL l.length (plainB l ++ m) = some (l, (plainB l).length) := by
  unfold rdL
  have h := rd_plain (W := tabW) pf_tab (m := l.length) (by omega) (runsL l) (l.length + 1) (plainB l ++ m) [] 0 false m (by rw [List.drop_zero, plF_is]; rfl) (by rw [List.length_nil, Nat.zero_add, runs_sum rl]) (runs_pos (.inl rfl)) (fun _ => by rw [runs_sum rl]; exact l0) (fun z => absurd z (by omega)) (runs_len rl)
  rw [h, plF_is, List.nil_append, Nat.zero_add]
  have e : unr (runsL l) (cN false) = l := unr_runs rl (.inl rfl) 0
  rw [e]
  rfl

/-! ### any stretch: its row, or none -/
def bodyL (st : List Nat) : List Nat := (st.drop 1).take (st.length - 2)
def resG (n : Nat) (ah : List Nat × Bool) (st : List Nat) : Option (List Nat × Nat) := if st[0]? = some 49 then rdL n (bodyL st) else if ah.2 = true then rdS stpB stD ah.1 (bodyL st) else none
def rdG (n : Nat) (ah : List Nat × Bool) (st : List Nat) : Option (List Nat) := match resG n ah st with
  | none => none
  | some x => if 49 ∈ (bodyL st).drop x.2 then none else some x.1
def tellG (n : Nat) (ah : List Nat × Bool) (st : List Nat) : List Nat × Bool := match rdG n ah st with
  | none => (ah.1, false)
  | some row => (row, true)
def tagS (b : Bool) : Str := if b = true then Str.ofString "read" else Str.ofString "guessed"
def tdV (x : List Nat × Bool) : List V := [.str (sOf x.1), .str (tagS x.2)]
def StOk (st : List Nat) : Prop := Bts st ∧ 2 ≤ st.length ∧ st.length ≤ 99000
def AhOk (ah : List Nat × Bool) : Prop := ah.1.length ≤ 64 ∧ Row ah.1
theorem resG_ok {n : Nat} {ah : List Nat × Bool} {st row : List Nat} {a : Nat} (n64 : n ≤ 64) (h : AhOk ah) (e : resG n ah st = some (row, a)) : row.length ≤ 64 ∧ Row row := by
  unfold resG at e
  split at e
  · have h1 := rdP_a pf_tab (m := n) (n + 1) [] 0 false row a (Nat.zero_le _) (Nat.zero_le _) e
    exact ⟨by omega, rdP_row (n + 1) [] 0 false row a (fun _ h => nomatch h) e⟩
  · split at e
    · have h1 := rdS_row (codT (n := ah.1.length) (by have := h.1; omega)) rfl e
      exact ⟨by have := h.1; omega, h1.2⟩
    · cases e
theorem rdG_ok {n : Nat} {ah : List Nat × Bool} {st row : List Nat} (n64 : n ≤ 64) (h : AhOk ah) (e : rdG n ah st = some row) : row.length ≤ 64 ∧ Row row := by
  unfold rdG at e
  split at e
  · cases e
  · rename_i x hx
    split at e
    · cases e
    · cases e
      exact resG_ok n64 h hx
theorem tellG_ok {n : Nat} {ah : List Nat × Bool} {st : List Nat} (n64 : n ≤ 64) (h : AhOk ah) : AhOk (tellG n ah st) := by
  unfold tellG
  split
  · exact h
  · rename_i row hr
    exact rdG_ok n64 h hr
theorem body_bts {st : List Nat} (h : StOk st) : Bts (bodyL st) := fun c hc => h.1 c (List.mem_of_mem_drop (List.mem_of_mem_take hc))
theorem body_len (st : List Nat) : (bodyL st).length ≤ st.length := by
  unfold bodyL
  rw [List.length_take, List.length_drop]
  omega
def spGoodG (p C : Addr) : Sp := fun vs H Q E => ∃ (n : Nat) (a : Addr) (ah : List Nat × Bool) (st : List Nat), vs = [.int (n : Int), .ref a, .str (sOf st)] ∧ H a = some (.tup (tdV ah)) ∧ n ≤ 64 ∧ AhOk ah ∧ StOk st ∧ LamX.Tabs (TT p) H ∧
  (rdG n ah st = none → ∀ H', LamX.ExtN H H' → LamX.Tabs (TT p) H' → E (.ref C) none H') ∧ (∀ row, rdG n ah st = some row → ∀ H', LamX.ExtN H H' → LamX.Tabs (TT p) H' → Q (.str (sOf row)) H')
theorem ok_good_row {A : Ad} (T : Txt w K mg base A) : FnOk P w K mg base (L2.CX P w) 7 A.a_good_row A.d_good_row P_good_row (spGoodG A.p_making_order A.x_NoTelling) := by
  have G_read_plain := ok_read_plain (P := P) (w := w) (base := base) T
  have G_read_above := ok_read_above (P := P) (w := w) (base := base) T
  refine T.F_good_row.okX sc_good_row (fun vs H Q E h => ?_) (fun cdv Ar outer s H vs Q E hr h => ?_)
  · obtain ⟨n, a, ah, st, rfl, _⟩ := h
    rfl
  · obtain ⟨n, a, ah, st, rfl, ha, n64, hA, hst, hT, qn, qs⟩ := h
    refine ⟨_, (pss_cons (ps_set (i := 3) sc_good_row.nd rfl (Or.inl rfl) (pe_slice sl_str (pv 2) (po_some pe_int) (po_some (pe_un un_neg pe_int))))
      (Evl.pss_cut (ps_if (pt_cmpR op_eq (pe_ix ix_str (pv 2) pe_int (fun _ _ => rfl)) (pe_glob (v := .str (Str.ofString "1")) (by rfl) T.c_PLAIN_TAG ⟨_, rfl⟩) (nomark _))
      (pss_one (ps_asg (pe_callS G_read_plain (hr.mono (by decide)) (by rfl) T.g_read_plain T.F_read_plain.kp T.b_read_plain (fun σ => passAt (takes_of rfl rfl rfl rfl) σ) (pa_cons (pv 0) (pa_cons (pv 3) pa_nil))) (pg_tup (by rfl) (pgs_cons (pg_name (i := 4) sc_good_row.nd rfl (Or.inl rfl)) (pgs_cons (pg_name (i := 5) sc_good_row.nd rfl (Or.inl rfl)) pgs_nil))))) (pss_one (ps_if (pt_cmpR op_eq (pe_ix (r := rIxT K) ix_tup (pv 1) pe_int (fun _ _ => rfl)) (pe_glob (v := .str (Str.ofString "read")) (by rfl) T.c_READ ⟨_, rfl⟩) (nomark _))
      (pss_one (ps_asg (pe_callS G_read_above (hr.mono (by decide)) (by rfl) T.g_read_above T.F_read_above.kp T.b_read_above (fun σ => passAt (takes_of rfl rfl rfl rfl) σ) (pa_cons (pe_ix (r := rIxT K) ix_tup (pv 1) pe_int (fun _ _ => rfl)) (pa_cons (pv 3) pa_nil))) (pg_tup (by rfl) (pgs_cons (pg_name (i := 4) sc_good_row.nd rfl (Or.inl rfl)) (pgs_cons (pg_name (i := 5) sc_good_row.nd rfl (Or.inl rfl)) pgs_nil))))) (pss_one (ps_raise rfl (takes_of rfl rfl rfl rfl) (pmk_own PySem.F.excBase_ValueError T.xq_NoTelling T.xg_NoTelling T.xk_NoTelling (raises_own T.xs_NoTelling T.xt_NoTelling) (by rfl)))))))
      (Evl.pss_cut (ps_if (pt_cmpR op_in_sign pe_str (pe_slice sl_str (pv 3) (po_some (pv 5)) po_none) (by rfl))
      (pss_one (ps_raise rfl (takes_of rfl rfl rfl rfl) (pmk_own PySem.F.excBase_ValueError T.xq_NoTelling T.xg_NoTelling T.xk_NoTelling (raises_own T.xs_NoTelling T.xt_NoTelling) (by rfl)))) pss_nil)
      (pss_one (ps_ret (pv 4)))))), ?_⟩
    have hz : (sOf st).length ≤ sizeLine := by
      rw [sOf_len]
      exact sz (by have := hst.2.2; omega)
    have h0s : 0 < st.length := by have := hst.2.1; omega
    have e0 : st[0]? = some st[0] := List.getElem?_eq_getElem h0s
    have bT := body_bts hst
    have bt := isB_iff.mpr bT
    have lb := body_len st
    have lT : (bodyL st).length ≤ 99000 := by have := hst.2.2; omega
    have hzT : (sOf (bodyL st)).length ≤ sizeLine := by
      rw [sOf_len]
      exact sz (by omega)
    refine ⟨_, rfl, _, rfl, _, rfl, _, rfl, _, rfl, hz, ?_⟩
    rw [cutS_mid1 hst.2.1]
    show (_ : Prop)
    have eb : (st.drop 1).take (st.length - 2) = bodyL st := rfl
    rw [eb]
    have noneR : resG n ah st = none → rdG n ah st = none := fun e => by
      unfold rdG
      rw [e]
    refine ⟨fun σ H' => ∃ (row : List Nat) (k : Nat), σ = [some (.int (n : Int)), some (.ref a), some (.str (sOf st)), some (.str (sOf (bodyL st))), some (.str (sOf row)), some (.int (k : Int))] ∧ resG n ah st = some (row, k) ∧ LamX.ExtN H H' ∧ LamX.Tabs (TT A.p_making_order) H', ?_, ?_⟩
    · refine ⟨_, rfl, _, _, _, rfl, rfl, hz, sOf_at (i := 0) e0, rfl, _, rfl, ?_⟩
      by_cases z : st[0] = 49
      · refine iteD1 (vstr1.mpr z) ?_
        have er : resG n ah st = rdL n (bodyL st) := by
          unfold resG
          rw [if_pos (by rw [e0, z])]
        refine ⟨_, rfl, _, rfl, _, n, _, rfl, rfl, n64, hT, .inr ⟨_, rfl, lT, (fun y => by rw [bt] at y; cases y), (fun _ y H2 eN T2 => qn (noneR (by rw [er]; exact y)) H2 eN T2), (fun _ row2 a2 e2 q2 H2 eN T2 hq2 => ?_)⟩⟩
        refine ⟨q2, _, rfl, SqT.of hq2, rfl, _, _, rfl, _, _, rfl, rfl, ?_⟩
        exact ⟨row2, a2, rfl, by rw [er]; exact e2, eN, T2⟩
      · refine iteD0 (fun y => z (vstr1.mp y)) ?_
        have n0 : ¬ st[0]? = some 49 := fun y => by
          rw [e0] at y
          exact z (Option.some.inj y)
        refine ⟨_, rfl, _, _, _, .str (tagS ah.2), rfl, rfl, SqT.of ha, atI_nat (j := 1) rfl, rfl, _, rfl, ?_⟩
        cases tg : ah.2 with
        | true =>
          refine iteD1 rfl ?_
          have er : resG n ah st = rdS stpB stD ah.1 (bodyL st) := by
            unfold resG
            rw [if_neg n0, if_pos tg]
          refine ⟨_, rfl, _, _, _, .str (sOf ah.1), rfl, rfl, SqT.of ha, atI_nat (j := 0) rfl, _, rfl, _, ah.1, rfl, hA.1, hT, .inr ⟨_, rfl, lT, (fun y => by rw [bt] at y; cases y), (fun _ y H2 eN T2 => qn (noneR (by rw [er]; exact y)) H2 eN T2), (fun _ row2 a2 e2 q2 H2 eN T2 hq2 => ?_)⟩⟩
          refine ⟨q2, _, rfl, SqT.of hq2, rfl, _, _, rfl, _, _, rfl, rfl, ?_⟩
          exact ⟨row2, a2, rfl, by rw [er]; exact e2, eN, T2⟩
        | false =>
          refine iteD0 (fun y => absurd (V.str.inj y) (by decide +kernel)) ?_
          refine qn (noneR ?_) H (LamX.ExtN.refl _) hT
          unfold resG
          rw [if_neg n0, if_neg (by rw [tg]; decide)]
    · rintro σ H1 ⟨row, k, rfl, er, e1, T1⟩
      refine ⟨fun σ H' => σ = [some (.int (n : Int)), some (.ref a), some (.str (sOf st)), some (.str (sOf (bodyL st))), some (.str (sOf row)), some (.int (k : Int))] ∧ H' = H1 ∧ rdG n ah st = some row, ?_, ?_⟩
      · refine ⟨_, rfl, _, rfl, _, rfl, _, rfl, hzT, 49, _, rfl, rfl, ?_⟩
        rw [cutS_from, sOf_list]
        by_cases y : 49 ∈ (bodyL st).drop k
        · refine ⟨_, rfl, iteD1 y ?_⟩
          refine qn ?_ H1 e1 T1
          unfold rdG
          rw [er]
          exact if_pos y
        · refine ⟨_, rfl, iteD0 y ?_⟩
          refine ⟨rfl, rfl, ?_⟩
          unfold rdG
          rw [er]
          exact if_neg y
      · rintro σ H2 ⟨rfl, rfl, eg⟩
        exact ⟨_, rfl, qs row eg H2 e1 T1⟩
/-! ### what is told of a stretch -/
def spToldG (p : Addr) : Sp := fun vs H Q _ => ∃ (n : Nat) (a : Addr) (ah : List Nat × Bool) (st : List Nat), vs = [.int (n : Int), .ref a, .str (sOf st)] ∧ H a = some (.tup (tdV ah)) ∧ n ≤ 64 ∧ AhOk ah ∧ StOk st ∧ LamX.Tabs (TT p) H ∧ ∀ q H', LamX.ExtN H H' → LamX.Tabs (TT p) H' → H' q = some (.tup (tdV (tellG n ah st))) → Q (.ref q) H'
theorem ok_told_row {A : Ad} (T : Txt w K mg base A) : FnOk P w K mg base CX0 8 A.a_told_row A.d_told_row P_told_row (spToldG A.p_making_order) := by
  have G_good_row := ok_good_row (P := P) (w := w) (base := base) T
  refine T.F_told_row.ok sc_told_row (fun vs H Q E h => ?_) (fun cdv Ar outer s H vs Q E hr h => ?_)
  · obtain ⟨n, a, ah, st, rfl, _⟩ := h
    rfl
  · obtain ⟨n, a, ah, st, rfl, ha, n64, hA, hst, hT, q⟩ := h
    refine ⟨_, (pss_one (ps_try_only (Wout := fun _ _ _ _ => False) rfl rfl ⟨rfl, by decide, Or.inl T.xg_NoTelling⟩ takes0 (fun W pn xe tk _ => (pss_one (ps_ret (pe_tup (pa_cons (pe_callS G_good_row (hr.mono (by decide)) (by rfl) T.g_good_row T.F_good_row.kp T.b_good_row (fun σ => passAt tk σ) (pa_cons (pv 0) (pa_cons (pv 1) (pa_cons (pv 2) pa_nil)))) (pa_cons (pe_glob (v := .str (Str.ofString "read")) (by rfl) T.c_READ ⟨_, rfl⟩) pa_nil)))))) (fun a oe cls d pn hz hf => (pss_one (ps_ret (pe_tup (pa_cons (pe_ix (r := rIxT K) ix_tup (pv 1) pe_int (fun _ _ => rfl)) (pa_cons (pe_glob (v := .str (Str.ofString "guessed")) (by rfl) T.c_GUESSED ⟨_, rfl⟩) pa_nil)))))))), ?_⟩
    refine ⟨_, rfl, _, rfl, _, rfl, n, a, ah, st, rfl, ha, n64, hA, hst, hT, (fun e H1 e1 T1 => ?_), fun row e H1 e1 T1 => ⟨(by show 2 ≤ sizeLine; decide), fun t ht => ?_⟩⟩
    · refine ⟨true, T.xm_NoTelling, fun _ a0 _ => ?_, fun z => nomatch z⟩
      have ha1 : H1 a = some (.tup (tdV ah)) := e1 _ _ ha (fun ps z => by cases z)
      refine ⟨_, rfl, _, _, _, .str (sOf ah.1), rfl, rfl, SqT.of ha1, atI_nat (j := 0) rfl, (by show 2 ≤ sizeLine; decide), fun t ht => ?_⟩
      refine q t _ (e1.trans (extN_of (same_new ht))) (tabs_same T1 (same_new ht)) ?_
      unfold tellG
      rw [e]
      exact upd_same
    · refine q t _ (e1.trans (extN_of (same_new ht))) (tabs_same T1 (same_new ht)) ?_
      unfold tellG
      rw [e]
      exact upd_same

--SPLIT
/-! ### any bits read -/
def ah0 (n : Nat) : List Nat × Bool := (List.replicate n 46, false)
def ahK (n : Nat) (F : List (List Nat)) : Nat → List Nat × Bool
  | 0 => ah0 n
  | k + 1 => tellG n (ahK n F k) (F.getD k [])
def tdsL (n : Nat) (F : List (List Nat)) (i : Nat) : List (List Nat × Bool) := (List.range i).map fun k => ahK n F (k + 1)
theorem tds_more (n : Nat) (F : List (List Nat)) (i : Nat) : tdsL n F (i + 1) = tdsL n F i ++ [ahK n F (i + 1)] := by
  unfold tdsL
  rw [List.range_succ, List.map_append]
  rfl
theorem tds_len (n : Nat) (F : List (List Nat)) (i : Nat) : (tdsL n F i).length = i := by
  unfold tdsL
  rw [List.length_map, List.length_range]
theorem ahK_ok {n : Nat} (n64 : n ≤ 64) (F : List (List Nat)) : ∀ k, AhOk (ahK n F k)
  | 0 => ⟨by show (List.replicate n 46).length ≤ 64; rw [List.length_replicate]; exact n64, Row.rep (.inl rfl)⟩
  | k + 1 => tellG_ok n64 (ahK_ok n64 F k)
/-- rows told, each as read or guessed -/
def TdAt (H : Hp) : List V → List (List Nat × Bool) → Prop
  | [], [] => True
  | v :: vs, l :: ls => (∃ t, v = .ref t ∧ H t = some (.tup (tdV l))) ∧ TdAt H vs ls
  | _, _ => False
theorem TdAt.mono {H H' : Hp} (k : ∀ (a : Addr) (xs : List V), H a = some (.tup xs) → H' a = some (.tup xs)) : ∀ {vs : List V} {ls : List (List Nat × Bool)}, TdAt H vs ls → TdAt H' vs ls
  | [], [], _ => trivial
  | _ :: _, _ :: _, ⟨⟨t, e, h⟩, r⟩ => ⟨⟨t, e, k _ _ h⟩, TdAt.mono k r⟩
  | [], _ :: _, h => h.elim
  | _ :: _, [], h => h.elim
theorem TdAt.app {H : Hp} {t : Addr} {l : List Nat × Bool} (ht : H t = some (.tup (tdV l))) : ∀ {vs : List V} {ls : List (List Nat × Bool)}, TdAt H vs ls → TdAt H (vs ++ [.ref t]) (ls ++ [l])
  | [], [], _ => ⟨⟨t, rfl, ht⟩, trivial⟩
  | _ :: _, _ :: _, ⟨h, r⟩ => ⟨h, TdAt.app ht r⟩
  | [], _ :: _, h => h.elim
  | _ :: _, [], h => h.elim
theorem TdAt.len {H : Hp} : ∀ {vs : List V} {ls : List (List Nat × Bool)}, TdAt H vs ls → vs.length = ls.length
  | [], [], _ => rfl
  | _ :: _, _ :: _, ⟨_, r⟩ => congrArg (· + 1) (TdAt.len r)
  | [], _ :: _, h => h.elim
  | _ :: _, [], h => h.elim
theorem TdAt.get {H : Hp} : ∀ {vs : List V} {ls : List (List Nat × Bool)} {k : Nat} {x : List Nat × Bool}, TdAt H vs ls → ls[k]? = some x → ∃ t, vs[k]? = some (.ref t) ∧ H t = some (.tup (tdV x))
  | [], [], _, _, _, h => by cases h
  | _ :: _, _ :: _, 0, x, ⟨⟨t, e, h⟩, _⟩, hk => by
    cases hk
    exact ⟨t, congrArg some e, h⟩
  | _ :: _, _ :: _, k + 1, x, ⟨_, r⟩, hk => TdAt.get (k := k) r hk
  | [], _ :: _, _, _, h, _ => h.elim
  | _ :: _, [], _, _, h, _ => h.elim
theorem TdAt.ext {H H' : Hp} {vs : List V} {ls : List (List Nat × Bool)} (h : TdAt H vs ls) (e : LamX.ExtN H H') : TdAt H' vs ls := h.mono fun a xs ha => e _ _ ha (fun ps z => by cases z)
theorem stt_ok {l : List Nat} (b : Bts l) (ll : l.length ≤ 99000) {st : List Nat} (h : st ∈ sttL l) : StOk st := by
  obtain ⟨i, hi, e⟩ := List.getElem_of_mem h
  have h2 : i + 1 < (endsL l).length := by
    have := sttL_len l
    omega
  have s := str_at h2
  have g : (sttL l).getD i [] = st := by
    rw [List.getD_eq_getElem?_getD, List.getElem?_eq_getElem hi, e]
    rfl
  have b1 := sttL_bts b i
  rw [g] at s b1
  exact ⟨b1, by omega, by omega⟩
theorem strR_sub {F F' : List (List Nat)} {b : Bool} (h : StrR F F' b) : ∀ st ∈ F', st ∈ F := fun st hs => by
  rcases h with ⟨_, a, _, _, _, _, rfl⟩ | ⟨_, _, rfl⟩
  · exact List.mem_of_mem_take hs
  · exact hs
theorem strR_len {F F' : List (List Nat)} {b : Bool} (h : StrR F F' b) : F'.length ≤ F.length := by
  rcases h with ⟨_, a, _, _, _, _, rfl⟩ | ⟨_, _, rfl⟩
  · rw [List.length_take]
    omega
  · exact Nat.le_refl _
theorem stt_cnt (l : List Nat) : (sttL l).length ≤ l.length := by
  have h1 := sttL_len l
  have h2 : (endsL l).length ≤ l.length := by
    unfold endsL
    rw [List.length_map]
    exact occs_len l l.length
  omega
theorem extN_mut {H H' : Hp} {p : Addr} {o : HO} (e : LamX.ExtN H H') (h : H p = none) : LamX.ExtN H (upd H' p o) := fun b x hb nt => by
  rw [upd_ne (ne_of_none hb h)]
  exact e b x hb nt
theorem free_of {H H' : Hp} (e : Same H H') {p : Addr} (h : H' p = none) : H p = none := by
  cases z : H p with
  | none => rfl
  | some o =>
    rw [e _ _ z] at h
    cases h
def spReadG (p : Addr) : Sp := fun vs H Q _ => ∃ (n : Nat) (l : List Nat) (F : List (List Nat)) (b : Bool) (x : Int), vs = [.int x, .str (sOf l)] ∧ x = n ∧ n ≤ 64 ∧ Bts l ∧ l.length ≤ 99000 ∧ StrR (sttL l) F b ∧ LamX.Tabs (TT p) H ∧
  ∀ q r ts H', H r = none → LamX.ExtN H H' → LamX.Tabs (TT p) H' → H' q = some (.tup [.ref r, .bl b]) → H' r = some (.lst ts) → TdAt H' ts (tdsL n F F.length) → Q (.ref q) H'
theorem ok_read_bits {A : Ad} (T : Txt w K mg base A) : FnOk P w K mg base CX0 9 A.a_read_bits A.d_read_bits P_read_bits (spReadG A.p_making_order) := by
  have G_stretches := ok_stretches (P := P) (w := w) (base := base) T
  have G_told_row := ok_told_row (P := P) (w := w) (base := base) T
  refine T.F_read_bits.ok sc_read_bits (fun vs H Q E h => ?_) (fun cdv Ar outer s H vs Q E hr h => ?_)
  · obtain ⟨n, l, F, b, x, rfl, _⟩ := h
    rfl
  · obtain ⟨n, l, F, b, _, rfl, rfl, n64, bts, ll, sF, hT, q⟩ := h
    refine ⟨_, (pss_cons (ps_asg (pe_call G_stretches (hr.mono (by decide)) (by rfl) T.g_stretches T.F_stretches.kp T.b_stretches .nil pass0 (pa_cons (pv 1) pa_nil)) (pg_tup (by rfl) (pgs_cons (pg_name (i := 2) sc_read_bits.nd rfl (Or.inl rfl)) (pgs_cons (pg_name (i := 3) sc_read_bits.nd rfl (Or.inl rfl)) pgs_nil))))
      (pss_cons (ps_set (i := 4) sc_read_bits.nd rfl (Or.inl rfl) (pe_lstW pa_nil))
      (pss_cons (ps_set (i := 5) sc_read_bits.nd rfl (Or.inl rfl) (pe_tupW (pa_cons (pe_op op_mul_str (pe_glob (v := .str (Str.ofString ".")) (by rfl) T.c_LIGHT ⟨_, rfl⟩) (pv 0)) (pa_cons (pe_glob (v := .str (Str.ofString "guessed")) (by rfl) T.c_GUESSED ⟨_, rfl⟩) pa_nil))))
      (pss_cons (ps_for PassesOwn.never rfl (pi_list (pv 2)) (pg_name (i := 6) sc_read_bits.nd rfl (Or.inl rfl))
      (pss_cons (ps_set (i := 5) sc_read_bits.nd rfl (Or.inl rfl) (pe_call G_told_row (hr.mono (by decide)) (by rfl) T.g_told_row T.F_told_row.kp T.b_told_row .nil pass0 (pa_cons (pv 0) (pa_cons (pv 5) (pa_cons (pv 6) pa_nil)))))
      (pss_one (ps_expr (pe_bm PySem.F.plainAttrs_list PySem.F.slot_list_append PySem.F.type_list_append mt_append (pv 4) (pa_cons (pv 5) pa_nil))))))
      (pss_one (ps_ret (pe_tupW (pa_cons (pv 4) (pa_cons (pv 3) pa_nil))))))))), ?_⟩
    refine ⟨_, rfl, _, rfl, bts, by omega, fun p1 r H1 F' b' nr s1 hp1 hr sr => ?_⟩
    obtain ⟨rfl, rfl⟩ := StrR.uniq sF sr
    refine ⟨p1, _, rfl, SqT.of hp1, rfl, _, _, rfl, _, _, rfl, rfl, ?_⟩
    have lF : F.length ≤ 99000 := by
      have h1 := strR_len sF
      have h2 := stt_cnt l
      omega
    refine ⟨(by show 0 ≤ 100000; decide), fun p H2 np s2 hp => ?_⟩
    refine ⟨_, rfl, 46, _, rfl, rfl, ⟨by omega, by omega⟩, (by show 2 ≤ 100000; decide), fun a0 H3 na s3 ha => ?_⟩
    rw [Int.toNat_natCast] at ha
    have s03 := (s1.trans s2).trans s3
    have npH : H p = none := free_of s1 np
    have rp : r ≠ p := ne_of_none hr np
    refine ⟨_, rfl, r, rfl, ⟨_, SqL.of (s3 _ _ (s2 _ _ hr))⟩, for_list (K := K) (a := r) (xs := F.map sV) (fun i σ H' => ∃ (ts : List V) (a : Addr) (y6 : Option V), σ = [some (.int (n : Int)), some (.str (sOf l)), some (.ref r), some (.bl b), some (.ref p), some (.ref a), y6] ∧ LamX.ExtN H H' ∧ LamX.Tabs (TT A.p_making_order) H' ∧ H' r = some (.lst (F.map sV)) ∧ H' p = some (.lst ts) ∧ TdAt H' ts (tdsL n F i) ∧ H' a = some (.tup (tdV (ahK n F i)))) ⟨[], a0, none, rfl, extN_of s03, tabs_same hT s03, s3 _ _ (s2 _ _ hr), s3 _ _ hp, trivial, ha⟩ (fun i σ H' _ ⟨_, _, _, _, _, _, hr', _⟩ => SqL.of hr') ?_ ?_⟩
    · rintro k x σ I1 hx ⟨ts, a, y6, rfl, ex, Tx, hr', hp', rd, ha'⟩
      have hk : k < F.length := by
        have := (List.getElem?_eq_some_iff.mp hx).1
        rw [List.length_map] at this
        exact this
      obtain rfl : x = sV (F.getD k []) := by
        rw [sVs_at hk] at hx
        exact (Option.some.inj hx).symm
      have hst : StOk (F.getD k []) := by
        rw [List.getD_eq_getElem?_getD, List.getElem?_eq_getElem hk]
        exact stt_ok bts ll (strR_sub sF _ (List.getElem_mem hk))
      refine ⟨_, rfl, _, rfl, _, rfl, n, a, ahK n F k, F.getD k [], rfl, ha', n64, ahK_ok n64 F k, hst, Tx, fun t I2 e2 T2 ht => ?_⟩
      have hp2 := e2 _ _ hp' (fun ps z => by cases z)
      have hr2 := e2 _ _ hr' (fun ps z => by cases z)
      have tp : t ≠ p := fun z => by
        rw [z, hp2] at ht
        cases ht
      have lts := rd.len
      rw [tds_len] at lts
      refine ⟨_, rfl, .inl ⟨rfl, _, SqL.of hp2⟩, _, rfl, p, _, _, rfl, rfl, hp2, szl (by omega), ?_⟩
      refine ⟨ts ++ [.ref t], t, _, rfl, extN_mut (ex.trans e2) npH, tabs_but (q := p) T2 hp2 (fun c o nc z => by rw [upd_ne nc]; exact z), (by rw [upd_ne rp]; exact hr2), upd_same, ?_, (by rw [upd_ne tp]; exact ht)⟩
      rw [tds_more]
      refine TdAt.app (by rw [upd_ne tp]; exact ht) (rd.mono fun c xs hc => ?_)
      have hc2 := e2 _ _ hc (fun ps z => by cases z)
      have cp : c ≠ p := fun z => by
        rw [z, hp2] at hc2
        cases hc2
      rw [upd_ne cp]
      exact hc2
    · rintro σ I1 ⟨ts, a, y6, rfl, ex, Tx, hr', hp', rd, ha'⟩
      rw [List.length_map] at rd
      refine ⟨_, rfl, _, rfl, (by show 2 ≤ 100000; decide), fun q1 I2 nq s4 hq1 => ?_⟩
      exact q q1 p ts I2 npH (ex.trans (extN_of s4)) (tabs_same Tx s4) hq1 (s4 _ _ hp') (rd.mono fun c xs hc => s4 _ _ hc)

--SPLIT
def iD (ns : List Nat) : List PyData := ns.map fun (n : Nat) => PyData.int (n : Int)
theorem dp_ints {H : Hp} : ∀ ns : List Nat, DpAll K H (ns.map iV) (iD ns)
  | [] => .nil
  | n :: r => .cons (.int _) (dp_ints r)
theorem lay_ints : ∀ ns : List Nat, PyData.canLayAll0 (iD ns) = true
  | [] => by simp [iD, PyData.canLayAll0]
  | n :: r => by
    have h := lay_ints r
    unfold iD at h ⊢
    simp only [List.map_cons, PyData.canLayAll0, PyData.canLay0, h, Bool.and_true]
theorem depth_ints : ∀ ns : List Nat, PyData.depthAll (iD ns) = 0
  | [] => by simp [iD, PyData.depthAll]
  | n :: r => by
    have h := depth_ints r
    unfold iD at h ⊢
    simp only [List.map_cons, PyData.depthAll, h, PyData.depth]
    rfl
theorem shaped_ints (ns : List Nat) : SeqAt.shaped (.list (iD ns)) = true := by
  show (PyData.canLay0 (.list (iD ns)) && decide (PyData.depth (.list (iD ns)) ≤ 64)) = true
  rw [Bool.and_eq_true]
  refine ⟨by simp only [PyData.canLay0]; exact lay_ints ns, decide_eq_true ?_⟩
  simp only [PyData.depth, depth_ints]
  omega
theorem eqv_ints (ns : List Nat) : PyData.eqv (.list (iD ns)) (.list (iD ns)) = true := SeqAt.eqv_refl _ (by simp only [PyData.canLay0]; exact lay_ints ns)

theorem vstr0 {a b : List Nat} : decide (V.str (sOf a) = V.str (sOf b)) = decide (a = b) := decide_eq_decide.mpr vstr
def spLMarkEnds : Sp := fun vs H Q _ => ∃ (l : List Nat), vs = [.str (sOf l)] ∧ l.length ≤ 99000 ∧ ∀ p H', H p = none → Same H H' → H' p = some (.lst ((endsL l).map iV)) → Q (.ref p) H'
theorem ok_lmark_ends {A : Ad} (T : Txt w K mg base A) : FnOk P w K mg base CX0 1 A.a_lmark_ends A.d_lmark_ends P_lmark_ends spLMarkEnds := by
  refine T.F_lmark_ends.ok sc_lmark_ends (fun vs H Q E h => ?_) (fun cdv Ar outer s H vs Q E hr h => ?_)
  · obtain ⟨l, rfl, _⟩ := h
    rfl
  · obtain ⟨l, rfl, ll, q⟩ := h
    refine ⟨_, (pss_cons (ps_set (i := 1) sc_lmark_ends.nd rfl (Or.inl rfl) (pe_lst pa_nil))
      (pss_cons (ps_for PassesOwn.never rfl (pi_range2 (by rfl) T.z_range (pa_cons pe_int (pa_cons (pe_callB call_len_str (by rfl) T.z_len PySem.boot_len (pa_cons (pv 0) pa_nil)) pa_nil))) (pg_name (i := 2) sc_lmark_ends.nd rfl (Or.inl rfl))
      (pss_one (ps_if (PW.pt (pw_and (pt_cmpR op_eq (pe_ix ix_str (pv 0) (pv 2) (fun _ _ => rfl)) pe_str (nomark _)) (pw_and1 (pt_cmpR op_eq (pe_slice sl_str (pv 0) (po_some (pe_op op_sub (pv 2) pe_int)) (po_some (pv 2))) (pe_op op_mul_str pe_str pe_int) (nomark _)))))
      (pss_one (ps_expr (pe_bm PySem.F.plainAttrs_list PySem.F.slot_list_append PySem.F.type_list_append mt_append (pv 1) (pa_cons (pe_op op_add (pv 2) pe_int) pa_nil)))) pss_nil)))
      (pss_one (ps_ret (pv 1))))), ?_⟩
    have hl : (sOf l).length ≤ sizeLine := by
      rw [sOf_len]
      exact sz (by omega)
    refine ⟨(by show 0 ≤ sizeLine; decide), fun p hp => ?_⟩
    refine ⟨_, rfl, _, rfl, hl, _, _, rfl, ?_⟩
    rw [sOf_len, show ((l.length : Int) - 11).toNat = l.length - 11 by omega]
    refine ⟨⟨by decide, by decide, by omega, by omega⟩, for_range (lo := 11) (n := l.length - 11) (fun i σ H' => ∃ y2 : Option V, σ = [some (.str (sOf l)), some (.ref p), y2] ∧ Same H H' ∧ H' p = some (.lst (((occs l i).map (· + 12)).map iV))) ⟨none, rfl, same_new hp, upd_same⟩ ?_ ?_⟩
    · rintro i σ H1 hi ⟨y2, rfl, sm, hp1⟩
      have lt : i + 11 < l.length := by omega
      have ei : (11 : Int) + (i : Int) = ((i + 11 : Nat) : Int) := by omega
      have e1 : l[i + 11]? = some l[i + 11] := List.getElem?_eq_getElem lt
      have ol := occs_len l i
      have nxt : occs l (i + 1) = if occ l i = true then occs l i ++ [i] else occs l i := by
        unfold occs
        rw [List.range_succ, List.filter_append]
        cases z : occ l i <;> simp [z]
      have stay : occ l i = false → ∃ y2 : Option V, [some (V.str (sOf l)), some (.ref p), some (.int (11 + (i : Int)))] = [some (.str (sOf l)), some (.ref p), y2] ∧ Same H H1 ∧ H1 p = some (.lst (((occs l (i + 1)).map (· + 12)).map iV)) := fun z => ⟨_, rfl, sm, by rw [nxt, if_neg (by rw [z]; decide)]; exact hp1⟩
      refine ⟨_, rfl, _, rfl, _, _, _, rfl, rfl, hl, (by rw [ei]; exact sOf_at e1), rfl, _, rfl, ?_⟩
      by_cases z1 : l[i + 11] = 49
      · refine iteD1 (vstr1.mpr z1) ?_
        refine ⟨_, rfl, _, rfl, _, _, rfl, rfl, _, rfl, _, rfl, _, rfl, _, rfl, hl, 48, _, rfl, rfl, ⟨by decide, by decide⟩, rfl, _, rfl, ?_⟩
        rw [ei, show ((i + 11 : Nat) : Int) - 11 = (i : Int) by omega, cutS_mid l i (i + 11) (by omega), show i + 11 - i = 11 by omega, show (11 : Int).toNat = 11 from rfl]
        by_cases z2 : (l.drop i).take 11 = List.replicate 11 48
        · refine iteD1 (vstr.mpr z2) ?_
          refine ⟨_, rfl, .inl ⟨rfl, _, SqL.of hp1⟩, _, rfl, _, _, rfl, rfl, p, _, _, rfl, rfl, hp1, (by rw [List.length_map, List.length_map]; exact szl (by omega)), ?_⟩
          have hocc : occ l i = true := occ_iff.mpr ⟨by rw [e1, z1], z2⟩
          refine ⟨some (.int ((i + 11 : Nat) : Int)), rfl, Same.mut sm hp, ?_⟩
          rw [upd_same, nxt, if_pos hocc, List.map_append, List.map_append]
          rfl
        · refine iteD0 (fun z => z2 (vstr.mp z)) ?_
          have := stay (by
            cases z : occ l i with
            | false => rfl
            | true => exact absurd (occ_iff.mp z).2 z2)
          rw [ei] at this
          exact this
      · refine iteD0 (fun z => z1 (vstr1.mp z)) (iteF ?_)
        exact stay (by
          cases z : occ l i with
          | false => rfl
          | true =>
            have := (occ_iff.mp z).1
            rw [e1] at this
            exact absurd (Option.some.inj this) z1)
    · rintro σ H1 ⟨y2, rfl, sm, hp1⟩
      have e : occs l l.length = occs l (l.length - 11) := occs_none (by omega) (fun v a b => occ_far (by omega))
      refine ⟨_, rfl, q p H1 hp sm ?_⟩
      unfold endsL
      rw [e]
      exact hp1

/-! ### the law's stretches -/
theorem cutV_last2 (xs : List V) (h : 2 ≤ xs.length) : cutV xs (some (-2)) none = xs.drop (xs.length - 2) := by
  unfold cutV
  rw [HT.sIx_none]
  show (xs.drop (-2 + (xs.length : Int)).toNat).take (xs.length - (-2 + (xs.length : Int)).toNat) = _
  rw [show (-2 + (xs.length : Int)).toNat = xs.length - 2 by omega]
  exact List.take_of_length_le (by rw [List.length_drop]; omega)
theorem cutV_but2 (xs : List V) (h : 2 ≤ xs.length) : cutV xs none (some (-2)) = xs.take (xs.length - 2) := by
  unfold cutV
  rw [HT.sIx_none]
  show (xs.drop 0).take ((-2 + (xs.length : Int)).toNat - 0) = _
  rw [List.drop_zero]
  congr 1
  omega
def spLStretches : Sp := fun vs H Q _ => ∃ (l : List Nat), vs = [.str (sOf l)] ∧ Bts l ∧ l.length ≤ 99000 ∧ ∀ p H' F' b, Same H H' → TolR H' p F' b → StrR (sttL l) F' b → Q (.ref p) H'
theorem ok_lstretches {A : Ad} (T : Txt w K mg base A) : FnOk P w K mg base CX0 2 A.a_lstretches A.d_lstretches P_lstretches spLStretches := by
  have G_lmark_ends := ok_lmark_ends (P := P) (w := w) (base := base) T
  refine T.F_lstretches.ok sc_lstretches (fun vs H Q E h => ?_) (fun cdv Ar outer s H vs Q E hr h => ?_)
  · obtain ⟨l, rfl, _⟩ := h
    rfl
  · obtain ⟨l, rfl, bl, ll, q⟩ := h
    refine ⟨_, (pss_cons (ps_set (i := 1) sc_lstretches.nd rfl (Or.inl rfl) (pe_call G_lmark_ends (hr.mono (by decide)) (by rfl) T.g_lmark_ends T.F_lmark_ends.kp T.b_lmark_ends .nil pass0 (pa_cons (pv 0) pa_nil)))
      (pss_cons (ps_set (i := 2) sc_lstretches.nd rfl (Or.inl rfl) (pe_lst pa_nil))
      (pss_cons (ps_for PassesOwn.never rfl (pi_range1 (by rfl) T.z_range (pa_cons (pe_op op_sub (pe_callB (r := fun xs H Q => ∃ p ys, xs = [.ref p] ∧ (SqL K H p ys ∨ SqT K H p ys) ∧ Q (.int ys.length) H) call_len_seq (by rfl) T.z_len PySem.boot_len (pa_cons (pv 1) pa_nil)) pe_int) pa_nil)) (pg_name (i := 3) sc_lstretches.nd rfl (Or.inl rfl))
      (pss_cons (ps_expr (pe_bm PySem.F.plainAttrs_list PySem.F.slot_list_append PySem.F.type_list_append mt_append (pv 2) (pa_cons (pe_slice sl_str (pv 0) (po_some (pe_ix (r := rIxL K) ix_list (pv 1) (pv 3) (fun _ _ => rfl))) (po_some (pe_ix (r := rIxL K) ix_list (pv 1) (pe_op op_add (pv 3) pe_int) (fun _ _ => rfl)))) pa_nil)))
      (pss_one (ps_if (pt_cmpR op_gt (pe_callB (r := fun xs H Q => ∃ p ys, xs = [.ref p] ∧ (SqL K H p ys ∨ SqT K H p ys) ∧ Q (.int ys.length) H) call_len_seq (by rfl) T.z_len PySem.boot_len (pa_cons (pv 2) pa_nil)) pe_int (nomark _))
      (pss_one (ps_if (pt_val (pe_callB (cr_all rfl) (by rfl) T.z_all (by decide +kernel) (pa_cons (pe_lc (own := [("_law_one", 4)]) (g := gName 4) (tt := tYes) (by rfl) sc_lstretches.nd (pi_list (pe_slice sl_list (pv 2) (po_some (pe_un un_neg pe_int)) po_none)) (blkOk_by (own := [("_law_one", 4)]) (N := N_lstretches) (sc := defScope s_lstretches) (by decide +kernel)) (fun _ _ _ _ _ => pg_name (i := 4) sc_lstretches.nd rfl (Or.inl rfl)) (fun _ _ _ _ _ => pts_nil) (fun s5 H5 C5 cl5 fp5 => (pe_cmpR op_eq (pv 4) (pe_op op_add_str (pe_op op_add_str pe_str (pe_op op_mul_str pe_str (pe_op op_sub (pe_callB call_len_str (by rfl) T.z_len PySem.boot_len (pa_cons (pv 4) pa_nil)) pe_int))) pe_str) (nomark _)))) pa_nil)))
      (pss_one (ps_ret (pe_tup (pa_cons (pe_slice sl_list (pv 2) po_none (po_some (pe_un un_neg pe_int))) (pa_cons pe_bl pa_nil))))) pss_nil)) pss_nil))))
      (pss_one (ps_ret (pe_tup (pa_cons (pv 2) (pa_cons pe_bl pa_nil)))))))), ?_⟩
    have hz : (sOf l).length ≤ sizeLine := by
      rw [sOf_len]
      exact sz (by omega)
    have el : (endsL l).length ≤ 99000 := by
      unfold endsL
      rw [List.length_map]
      have := occs_len l l.length
      omega
    have sl := sttL_len l
    refine ⟨_, rfl, l, rfl, ll, fun ep H1 ne s1 hep => ?_⟩
    have ml : ((endsL l).map iV).length = (endsL l).length := List.length_map ..
    refine ⟨(by show 0 ≤ sizeLine; decide), fun D hD => ?_⟩
    have ned : ep ≠ D := ne_of_none hep hD
    refine ⟨_, rfl, ep, _, rfl, .inl (SqL.of (same_new hD _ _ hep)), _, _, rfl, rfl, _, rfl, by omega, by omega, ?_⟩
    rw [show ((((endsL l).map iV).length : Int) - 1).toNat = (sttL l).length by omega]
    refine for_range (lo := 0) (n := (sttL l).length) (fun i σ H' => ∃ y3 y4 : Option V, σ = [some (.str (sOf l)), some (.ref ep), some (.ref D), y3, y4] ∧ Same H1 H' ∧ H' D = some (.lst (((sttL l).take i).map sV)) ∧ ∀ a, 1 ≤ a → a < i → ¬ E2 (sttL l) a) ⟨none, none, rfl, same_new hD, upd_same, fun a x y => absurd y (by omega)⟩ ?_ ?_
    · rintro i σ H2 hi ⟨y3, y4, rfl, sm, hD2, hn⟩
      have sa := str_at (l := l) (i := i) (by omega)
      have he2 := sm _ _ hep
      have tl : ((sttL l).take (i + 1)).length = i + 1 := by
        rw [List.length_take]
        omega
      have tml : (((sttL l).take (i + 1)).map sV).length = i + 1 := by rw [List.length_map, tl]
      refine ⟨_, rfl, .inl ⟨rfl, _, SqL.of hD2⟩, _, rfl, _, rfl, _, rfl, _, _, _, _, rfl, rfl, SqL.of he2, (by rw [Int.zero_add]; exact atI_nat (ends_iV (by omega))), _, rfl, _, rfl, _, rfl, _, _, rfl, rfl, _, _, _, _, rfl, rfl, SqL.of he2, (by rw [show (0 : Int) + (i : Int) + 1 = ((i + 1 : Nat) : Int) by omega]; exact atI_nat (ends_iV (by omega))), _, rfl, _, rfl, hz, D, _, _, rfl, rfl, hD2, (by rw [List.length_map, List.length_take]; exact szl (by omega)), ?_⟩
      have hD3 : ∀ H3, H3 = upd H2 D (.lst (((sttL l).take i).map sV ++ [.str (cutS (sOf l) (some ((endsL l).getD i 0 : Int)) (some ((endsL l).getD (i + 1) 0 : Int)))])) → H3 D = some (.lst (((sttL l).take (i + 1)).map sV)) := fun H3 e => by
        rw [e, upd_same, cutS_mid l _ _ (by omega), take_more _ _ _ sa.2.2.2.2, List.map_append]
        rfl
      generalize hH3 : upd H2 D (.lst (((sttL l).take i).map sV ++ [.str (cutS (sOf l) (some ((endsL l).getD i 0 : Int)) (some ((endsL l).getD (i + 1) 0 : Int)))])) = H3
      have hD3 := hD3 H3 hH3.symm
      have sm3 : Same H1 H3 := by
        rw [← hH3]
        exact Same.mut sm hD
      have stay : (∀ a, 1 ≤ a → a < i + 1 → ¬ E2 (sttL l) a) → ∀ H4, Same H3 H4 → ∃ z3 z4 : Option V, [some (V.str (sOf l)), some (.ref ep), some (.ref D), some (.int (0 + (i : Int))), y4] = [some (.str (sOf l)), some (.ref ep), some (.ref D), z3, z4] ∧ Same H1 H4 ∧ H4 D = some (.lst (((sttL l).take (i + 1)).map sV)) ∧ ∀ a, 1 ≤ a → a < i + 1 → ¬ E2 (sttL l) a := fun h H4 s4 => ⟨_, _, rfl, sm3.trans s4, s4 _ _ hD3, h⟩
      refine ⟨_, rfl, D, _, rfl, .inl (SqL.of hD3), _, _, rfl, rfl, _, rfl, ?_⟩
      rw [tml]
      by_cases i1 : 1 ≤ i
      · refine iteD1 (by omega) ?_
        refine ⟨_, rfl, _, rfl, _, rfl, _, _, rfl, SqL.of hD3, fun p5 hp5 => ?_⟩
        rw [cutV_last2 _ (by rw [tml]; omega), tml]
        have d2 : (((sttL l).take (i + 1)).map sV).drop (i + 1 - 2) = [(sttL l).getD (i - 1) [], (sttL l).getD i []].map sV := by
          rw [← List.map_drop, List.drop_take, show i + 1 - (i + 1 - 2) = 2 by omega, show i + 1 - 2 = i - 1 by omega]
          congr 1
          have h1 : i - 1 < (sttL l).length := by omega
          rw [List.drop_eq_getElem_cons h1, show i - 1 + 1 = i by omega, List.drop_eq_getElem_cons hi]
          rw [List.getD_eq_getElem?_getD, List.getD_eq_getElem?_getD, List.getElem?_eq_getElem h1, List.getElem?_eq_getElem hi]
          rfl
        rw [d2]
        generalize hpr : [(sttL l).getD (i - 1) [], (sttL l).getD i []] = pr
        have prm : ∀ w ∈ pr, 12 ≤ w.length ∧ w.length ≤ 99000 := fun w hw => by
          rw [← hpr] at hw
          rcases List.mem_cons.mp hw with rfl | hw
          · have := str_at (l := l) (i := i - 1) (by omega)
            omega
          · rw [List.mem_singleton.mp hw]
            omega
        refine ⟨p5, rfl, ⟨_, SqL.of upd_same⟩, fun D6 hD6 => lc_list (K := K) (a := p5) (xs := pr.map sV) (fun j H' => Same (upd H3 p5 (.lst (pr.map sV))) H' ∧ H' D6 = some (.lst ((pr.take j).map fun w => V.bl (emp w)))) ⟨same_new hD6, upd_same⟩ (fun j H' _ hh => SqL.of (hh.1 _ _ upd_same)) ?_ ?_⟩
        · rintro j x H5 hx ⟨sm5, hD5⟩
          rw [List.getElem?_map] at hx
          obtain ⟨w, hw, rfl⟩ : ∃ w, pr[j]? = some w ∧ sV w = x := by
            cases e : pr[j]? with
            | none =>
              rw [e] at hx
              cases hx
            | some w =>
              rw [e] at hx
              exact ⟨w, rfl, Option.some.inj hx⟩
          have wl := prm w (List.mem_of_getElem? hw)
          have j2 : pr.length = 2 := by rw [← hpr]; rfl
          have wz : (sOf w).length ≤ sizeLine := by
            rw [sOf_len]
            exact sz (by omega)
          refine ⟨rfl, _, rfl, _, rfl, _, rfl, wz, _, _, rfl, rfl, 48, _, rfl, rfl, ⟨by rw [sOf_len]; omega, by rw [sOf_len]; omega⟩, _, _, rfl, rfl, ?_, _, _, rfl, rfl, ?_, rfl, _, hD5, ?_, Same.mut sm5 hD6, ?_⟩
          · rw [sOf_len, sOf_len, List.length_replicate]
            exact sz (by show 1 + _ ≤ _; omega)
          · rw [sOf_len, show Str.ofString "1" = sOf [49] from rfl, sOf_app, sOf_len, sOf_len, List.length_append, List.length_replicate]
            exact sz (by show 1 + _ + 1 ≤ _; omega)
          · rw [List.length_map, List.length_take]
            exact szl (by omega)
          · rw [upd_same, take_more _ _ _ hw, List.map_append]
            congr 3
            show [V.bl (decide (V.str (sOf w) = V.str (Str.ofString "1" ++ sOf (List.replicate (((sOf w).length : Int) - 2).toNat 48) ++ Str.ofString "1")))] = [V.bl (emp w)]
            rw [show Str.ofString "1" = sOf [49] from rfl, sOf_app, sOf_app, vstr0, sOf_len, show ((w.length : Int) - 2).toNat = w.length - 2 by omega]
            rfl
        · rintro H5 ⟨sm5, hD5⟩
          rw [List.length_map, List.take_length] at hD5
          have s35 : Same H3 H5 := (same_new hp5).trans sm5
          refine ⟨_, pr.map emp, rfl, SqL.of (by rw [List.map_map]; exact hD5), _, rfl, ?_⟩
          have ea : (pr.map emp).all id = (emp ((sttL l).getD (i - 1) []) && emp ((sttL l).getD i [])) := by
            rw [← hpr]
            simp
          rw [ea]
          cases x1 : (emp ((sttL l).getD (i - 1) []) && emp ((sttL l).getD i [])) with
          | false =>
            refine iteF ?_
            refine stay (fun a x y => ?_) H5 s35
            by_cases z : a = i
            · rintro ⟨z1, z2⟩
              rw [z] at z1 z2
              rw [z1, z2] at x1
              cases x1
            · exact hn a x (by omega)
          | true =>
            refine iteT ?_
            rw [Bool.and_eq_true] at x1
            have hD5' := s35 _ _ hD3
            refine ⟨_, rfl, _, rfl, _, rfl, _, _, rfl, SqL.of hD5', fun p7 hp7 => ⟨(by show 2 ≤ sizeLine; decide), fun p8 hp8 => ?_⟩⟩
            have np : p7 ≠ p8 := ne_of_none upd_same hp8
            refine q p8 _ ((sttL l).take (i - 1)) true ((s1.trans (sm3.trans s35)).trans ((same_new hp7).trans (same_new hp8))) ⟨p7, upd_same, ?_⟩ (.inl ⟨rfl, i, i1, hi, x1, hn, rfl⟩)
            rw [upd_ne np, upd_same, cutV_but2 _ (by rw [tml]; omega), tml, ← List.map_take, List.take_take, show min (i + 1 - 2) (i + 1) = i - 1 by omega]
      · refine iteD0 (by omega) ?_
        exact stay (fun a x y => absurd y (by omega)) H3 (Same.refl _)
    · rintro σ H2 ⟨y3, y4, rfl, sm, hD2, hn⟩
      rw [List.take_length] at hD2
      refine ⟨_, rfl, (by show 2 ≤ sizeLine; decide), fun p6 hp6 => ?_⟩
      exact q p6 _ (sttL l) false ((s1.trans sm).trans (same_new hp6)) ⟨D, upd_same, by rw [upd_ne (ne_of_none hD2 hp6)]; exact hD2⟩ (.inr ⟨rfl, hn, rfl⟩)

/-! ### spoils in the heap -/
def spV : Spl → List V
  | .turn n => [.str (Str.ofString "turn"), .int (n : Int)]
  | .lose n => [.str (Str.ofString "lose"), .int (n : Int)]
  | .put n b => [.str (Str.ofString "put"), .int (n : Int), .str (sOf [b])]
def SpsAt (H : Hp) : List V → List Spl → Prop
  | [], [] => True
  | v :: vs, sp :: sps => (∃ a, v = .ref a ∧ H a = some (.tup (spV sp))) ∧ SpsAt H vs sps
  | _, _ => False
theorem SpsAt.len {H : Hp} : ∀ {vs : List V} {sps : List Spl}, SpsAt H vs sps → vs.length = sps.length
  | [], [], _ => rfl
  | _ :: vs, _ :: sps, h => by rw [List.length_cons, List.length_cons, SpsAt.len h.2]
  | [], _ :: _, h => h.elim
  | _ :: _, [], h => h.elim
theorem SpsAt.get {H : Hp} : ∀ {vs : List V} {sps : List Spl} {i : Nat} {v : V}, SpsAt H vs sps → vs[i]? = some v → ∃ sp a, sps[i]? = some sp ∧ v = .ref a ∧ H a = some (.tup (spV sp))
  | [], [], _, _, _, e => by cases e
  | x :: vs, sp :: sps, 0, v, h, e => by
    obtain ⟨⟨a, h1, h2⟩, _⟩ := h
    have : x = v := Option.some.inj e
    exact ⟨sp, a, rfl, by rw [← this, h1], h2⟩
  | x :: vs, sp :: sps, i + 1, v, h, e => SpsAt.get (i := i) h.2 e
  | [], _ :: _, _, _, h, _ => h.elim
  | _ :: _, [], _, _, h, _ => h.elim
theorem SpsAt.mono {H H' : Hp} : ∀ {vs : List V} {sps : List Spl}, SpsAt H vs sps → (∀ a xs, H a = some (.tup xs) → H' a = some (.tup xs)) → SpsAt H' vs sps
  | [], [], _, _ => trivial
  | x :: vs, sp :: sps, h, m => by
    obtain ⟨⟨a, h1, h2⟩, h3⟩ := h
    exact ⟨⟨a, h1, m _ _ h2⟩, SpsAt.mono h3 m⟩
  | [], _ :: _, h, _ => h.elim
  | _ :: _, [], h, _ => h.elim
theorem SpsAt.app {H : Hp} {ws : List V} {tps : List Spl} (k : SpsAt H ws tps) : ∀ {vs : List V} {sps : List Spl}, SpsAt H vs sps → SpsAt H (vs ++ ws) (sps ++ tps)
  | [], [], _ => k
  | x :: vs, sp :: sps, h => ⟨h.1, SpsAt.app k h.2⟩
  | [], _ :: _, h => h.elim
  | _ :: _, [], h => h.elim
theorem SpsAt.take {H : Hp} : ∀ {vs : List V} {sps : List Spl} (n : Nat), SpsAt H vs sps → SpsAt H (vs.take n) (sps.take n)
  | [], [], n, _ => by rw [List.take_nil, List.take_nil]; trivial
  | x :: vs, sp :: sps, 0, h => trivial
  | x :: vs, sp :: sps, n + 1, h => ⟨h.1, SpsAt.take n h.2⟩
  | [], _ :: _, _, h => h.elim
  | _ :: _, [], _, h => h.elim
theorem ne_word {a b : Str} (h : a ≠ b) : ¬ (V.str a = V.str b) := fun e => h (V.str.inj e)
theorem spoil_len : ∀ (sps : List Spl) (l : List Nat), (spoilL l sps).length ≤ l.length + sps.length
  | [], l => Nat.le_refl _
  | sp :: r, l => by
    have h1 := spoil_len r (once l sp)
    have h2 := once_len l sp
    show (spoilL (once l sp) r).length ≤ _
    rw [List.length_cons]
    omega
theorem spoil_more {sps : List Spl} {i : Nat} {sp : Spl} (l : List Nat) (h : sps[i]? = some sp) : spoilL l (sps.take (i + 1)) = once (spoilL l (sps.take i)) sp := by
  rw [take_more sps i sp h]
  unfold spoilL
  rw [List.foldl_append]
  rfl

/-! ### spoils are drawn -/
def GoodS (mo : Int) (sp : Spl) : Prop := (plc sp : Int) < mo + 2 ∧ BitS sp
def spSpoils : Sp := fun vs H Q _ => ∃ (b : Addr) (m mo : Int), vs = [.ref b, .int m, .int mo] ∧ BagAt H b ∧ 0 ≤ m ∧ m ≤ 100 ∧ 0 ≤ mo ∧ mo ≤ 100000 ∧
  ∀ p ws sps H', H p = none → Bx b H H' → H' p = some (.lst ws) → SpsAt H' ws sps → (sps.length : Int) = m → (∀ sp ∈ sps, GoodS mo sp) → Q (.ref p) H'
theorem ok_spoils {A : Ad} (T : Txt w K mg base A) : FnOk P w K mg base CX0 2 A.a_spoils A.d_spoils P_spoils spSpoils := by
  have G_draw := ok_draw (P := P) (w := w) (base := base) T
  refine T.F_spoils.ok sc_spoils (fun vs H Q E h => ?_) (fun cdv Ar outer s H vs Q E hr h => ?_)
  · obtain ⟨b, m, mo, rfl, _⟩ := h
    rfl
  · obtain ⟨b, m, mo, rfl, hb, m0, m1, o0, o1, q⟩ := h
    obtain ⟨m, rfl⟩ := Int.eq_ofNat_of_zero_le m0
    refine ⟨_, (pss_cons (ps_set (i := 3) sc_spoils.nd rfl (Or.inl rfl) (pe_lst pa_nil))
      (pss_cons (ps_for PassesOwn.never rfl (pi_range1 (by rfl) T.z_range (pa_cons (pv 1) pa_nil)) (pg_name (i := 4) sc_spoils.nd rfl (Or.inl rfl))
      (pss_cons (ps_set (i := 5) sc_spoils.nd rfl (Or.inl rfl) (pe_ix (r := rIxL K) ix_list (pe_lst (pa_cons pe_str (pa_cons pe_str (pa_cons pe_str pa_nil)))) (pe_call G_draw (hr.mono (by decide)) (by rfl) T.g_draw T.F_draw.kp T.b_draw .nil pass0 (pa_cons (pv 0) (pa_cons pe_int pa_nil))) (fun _ _ => rfl)))
      (pss_cons (ps_set (i := 6) sc_spoils.nd rfl (Or.inl rfl) (pe_call G_draw (hr.mono (by decide)) (by rfl) T.g_draw T.F_draw.kp T.b_draw .nil pass0 (pa_cons (pv 0) (pa_cons (pe_op op_add (pv 2) pe_int) pa_nil))))
      (pss_one (ps_if (pt_cmpR op_eq (pv 5) pe_str (nomark _))
      (pss_one (ps_expr (pe_bm PySem.F.plainAttrs_list PySem.F.slot_list_append PySem.F.type_list_append mt_append (pv 3) (pa_cons (pe_tup (pa_cons (pv 5) (pa_cons (pv 6) (pa_cons (pe_ix ix_str pe_str (pe_call G_draw (hr.mono (by decide)) (by rfl) T.g_draw T.F_draw.kp T.b_draw .nil pass0 (pa_cons (pv 0) (pa_cons pe_int pa_nil))) (fun _ _ => rfl)) pa_nil)))) pa_nil)))) (pss_one (ps_expr (pe_bm PySem.F.plainAttrs_list PySem.F.slot_list_append PySem.F.type_list_append mt_append (pv 3) (pa_cons (pe_tup (pa_cons (pv 5) (pa_cons (pv 6) pa_nil))) pa_nil)))))))))
      (pss_one (ps_ret (pv 3))))), ?_⟩
    refine ⟨(by show 0 ≤ sizeLine; decide), fun p hp => ?_⟩
    have np : p ≠ b := BagAt.ne hb hp
    refine ⟨_, rfl, _, rfl, by omega, by omega, for_range (lo := 0) (n := m) (fun i σ H' => ∃ (ws : List V) (sps : List Spl) (y4 y5 y6 : Option V), σ = [some (.ref b), some (.int (m : Int)), some (.int mo), some (.ref p), y4, y5, y6] ∧ Bx b H H' ∧ H' p = some (.lst ws) ∧ SpsAt H' ws sps ∧ sps.length = i ∧ ∀ sp ∈ sps, GoodS mo sp)
      ⟨[], [], none, none, none, rfl, (Bx.refl hb).same (same_new hp), upd_same, trivial, rfl, fun _ h => nomatch h⟩ ?_ ?_⟩
    · rintro i σ H1 hi ⟨ws, sps, y4, y5, y6, rfl, bx, hp1, hs, ls, gs⟩
      have fin : ∀ (sp : Spl) (t : Addr) (H2 H3 : Hp) (y5 y6 : Option V), Bx b H1 H2 → H2 t = none → GoodS mo sp → H3 = upd (upd H2 t (.tup (spV sp))) p (.lst (ws ++ [.ref t])) → ∃ (ws : List V) (sps : List Spl) (z4 z5 z6 : Option V), [some (.ref b), some (.int (m : Int)), some (.int mo), some (.ref p), some (V.int (0 + (i : Int))), y5, y6] = [some (.ref b), some (.int (m : Int)), some (.int mo), some (.ref p), z4, z5, z6] ∧ Bx b H H3 ∧ H3 p = some (.lst ws) ∧ SpsAt H3 ws sps ∧ sps.length = i + 1 ∧ ∀ sp ∈ sps, GoodS mo sp := by
        intro sp t H2 H3 y5 y6 bx2 ht g e
        have tp : t ≠ p := (ne_of_none (bx2.2 _ _ np hp1) ht).symm
        subst e
        refine ⟨_, sps ++ [sp], _, _, _, rfl, ((bx.trans bx2).same (same_new ht)).mut hp np, upd_same, SpsAt.app (ws := [.ref t]) (tps := [sp]) (And.intro ⟨t, rfl, by rw [upd_ne tp, upd_same]⟩ trivial) (hs.mono fun a xs ha => ?_), by rw [List.length_append, ls]; rfl, fun x hx => ?_⟩
        · have h2 := bx2.2 _ _ (bx.1.tup ha) ha
          have n1 : a ≠ p := fun z => by
            rw [z, hp1] at ha
            cases ha
          rw [upd_ne n1, upd_ne (ne_of_none h2 ht)]
          exact h2
        · rcases List.mem_append.mp hx with h | h
          · exact gs x h
          · rw [List.mem_singleton.mp h]
            exact g
      refine ⟨(by show 3 ≤ sizeLine; decide), fun q1 hq1 => ⟨_, rfl, b, 3, rfl, (bx.same (same_new hq1)).1, by decide, by decide, fun d H2 d0 d1 bx2 => ?_⟩⟩
      have nq : q1 ≠ b := BagAt.ne bx.1 hq1
      have hq2 := bx2.2 _ _ nq (upd_same (H := H1) (a := q1) (o := .lst [.str (Str.ofString "turn"), .str (Str.ofString "lose"), .str (Str.ofString "put")]))
      have bx12 : Bx b H1 H2 := ((Bx.refl bx.1).same (same_new hq1)).trans bx2
      have dd : d = 0 ∨ d = 1 ∨ d = 2 := by omega
      rcases dd with rfl | rfl | rfl
      · refine ⟨_, _, _, _, rfl, rfl, SqL.of hq2, atI_nat (j := 0) rfl, ?_⟩
        refine ⟨_, rfl, _, rfl, _, _, rfl, rfl, b, _, rfl, bx12.1, by omega, by omega, fun n H3 n0 n1 bx3 => ?_⟩
        obtain ⟨n, rfl⟩ := Int.eq_ofNat_of_zero_le n0
        have bx13 := bx12.trans bx3
        refine ⟨_, rfl, rfl, _, rfl, iteD0 (ne_word (by decide)) ?_⟩
        have hp3 := bx13.2 _ _ np hp1
        refine ⟨_, rfl, .inl ⟨rfl, _, SqL.of hp3⟩, _, rfl, _, rfl, (by show 2 ≤ sizeLine; decide), fun t ht => ?_⟩
        refine ⟨p, _, _, rfl, rfl, by rw [upd_ne (ne_of_none hp3 ht)]; exact hp3, by rw [hs.len]; exact szl (by omega), ?_⟩
        exact fin (.turn n) t H3 _ _ _ bx13 ht ⟨n1, trivial⟩ rfl
      · refine ⟨_, _, _, _, rfl, rfl, SqL.of hq2, atI_nat (j := 1) rfl, ?_⟩
        refine ⟨_, rfl, _, rfl, _, _, rfl, rfl, b, _, rfl, bx12.1, by omega, by omega, fun n H3 n0 n1 bx3 => ?_⟩
        obtain ⟨n, rfl⟩ := Int.eq_ofNat_of_zero_le n0
        have bx13 := bx12.trans bx3
        refine ⟨_, rfl, rfl, _, rfl, iteD0 (ne_word (by decide)) ?_⟩
        have hp3 := bx13.2 _ _ np hp1
        refine ⟨_, rfl, .inl ⟨rfl, _, SqL.of hp3⟩, _, rfl, _, rfl, (by show 2 ≤ sizeLine; decide), fun t ht => ?_⟩
        refine ⟨p, _, _, rfl, rfl, by rw [upd_ne (ne_of_none hp3 ht)]; exact hp3, by rw [hs.len]; exact szl (by omega), ?_⟩
        exact fin (.lose n) t H3 _ _ _ bx13 ht ⟨n1, trivial⟩ rfl
      · refine ⟨_, _, _, _, rfl, rfl, SqL.of hq2, atI_nat (j := 2) rfl, ?_⟩
        refine ⟨_, rfl, _, rfl, _, _, rfl, rfl, b, _, rfl, bx12.1, by omega, by omega, fun n H3 n0 n1 bx3 => ?_⟩
        obtain ⟨n, rfl⟩ := Int.eq_ofNat_of_zero_le n0
        have bx13 := bx12.trans bx3
        refine ⟨_, rfl, rfl, _, rfl, iteD1 rfl ?_⟩
        have hp3 := bx13.2 _ _ np hp1
        refine ⟨_, rfl, .inl ⟨rfl, _, SqL.of hp3⟩, _, rfl, _, rfl, _, rfl, b, 2, rfl, bx13.1, by decide, by decide, fun e H4 e0 e1 bx4 => ⟨_, _, _, rfl, rfl, two_len', bit_at e0 e1, (by show 3 ≤ sizeLine; decide), fun t ht => ?_⟩⟩
        have hp4 := bx4.2 _ _ np hp3
        refine ⟨p, _, _, rfl, rfl, by rw [upd_ne (ne_of_none hp4 ht)]; exact hp4, by rw [hs.len]; exact szl (by omega), ?_⟩
        exact fin (.put n (bitN e)) t H4 _ _ _ (bx13.trans bx4) ht ⟨n1, bitN_bit e⟩ rfl
    · rintro σ H1 ⟨ws, sps, y4, y5, y6, rfl, bx, hp1, hs, ls, gs⟩
      exact ⟨_, rfl, q p ws sps H1 hp bx hp1 hs (by rw [ls]) gs⟩

--SPLIT
/-! ### the blocks of a page's rows -/
def stW (c : Nat) (w : List Nat) (m : Nat) : List Nat := (c :: w) ++ List.replicate m 48
theorem stW_told (c : Nat) (w : List Nat) (m : Nat) : ((stW c w m ++ mkL).drop 1).take ((stW c w m ++ mkL).length - 2) = w ++ List.replicate (m + 11) 48 := by
  have e : stW c w m ++ mkL = c :: (w ++ List.replicate (m + 11) 48 ++ [49]) := by
    unfold stW
    rw [show mkL = List.replicate 11 48 ++ [49] from rfl, ← List.replicate_append_replicate]
    simp only [List.append_assoc, List.cons_append]
  rw [e, List.drop_succ_cons, List.drop_zero, List.length_cons, List.length_append]
  exact List.take_left
/-- what the stretches tell, one behind the other -/
def tagW (rows : List (List Nat)) (e k : Nat) : Nat := if k % e = 0 then 49 else 48
def telW (rows : List (List Nat)) (e k : Nat) : List Nat := if k % e = 0 then plainB (rows.getD k []) else aboveB (rows.getD (k - 1) []) (rows.getD k [])
def padN (rows : List (List Nat)) (e m k : Nat) : Nat := m - (telW rows e k).length - 13
def rowW (rows : List (List Nat)) (e m k : Nat) : List Nat := stW (tagW rows e k) (telW rows e k) (padN rows e m k)
theorem rowW_is (rows : List (List Nat)) (e m k : Nat) : padB (rowB rows k e) m = mkL ++ rowW rows e m k := by
  unfold padB rowB rowW stW padN tagW telW
  split
  · rw [List.length_append, List.length_cons, List.append_assoc]
    show mkL ++ _ = _
    congr 3
    show m - (12 + _) = _
    omega
  · rw [List.length_append, List.length_cons, List.append_assoc]
    show mkL ++ _ = _
    congr 3
    show m - (12 + _) = _
    omega
theorem blk_turn : ∀ (ws : List (List Nat)) (Z : List Nat), (ws.map (mkL ++ ·)).flatten ++ (mkL ++ Z) = mkL ++ (blk ws ++ Z)
  | [], Z => rfl
  | w :: ws, Z => by
    rw [List.map_cons, List.flatten_cons, blk_cons]
    have := blk_turn ws Z
    simp only [List.append_assoc] at this ⊢
    rw [this]
theorem page_blk (rows : List (List Nat)) (e m : Nat) (ah be : List Nat) : ah ++ pageB rows e m ++ be = blk (ah :: ((List.range rows.length).map (rowW rows e m) ++ List.replicate 5 [49])) ++ (49 :: be) := by
  unfold pageB pageR
  have e1 : ((List.range rows.length).map fun k => padB (rowB rows k e) m) = ((List.range rows.length).map (rowW rows e m)).map (mkL ++ ·) := by
    rw [List.map_map]
    refine List.map_congr_left fun k _ => ?_
    exact rowW_is rows e m k
  have e2 : endB = mkL ++ (blk (List.replicate 5 [49]) ++ [49]) := rfl
  rw [e1, e2, blk_turn, blk_cons, blk_app]
  simp only [List.append_assoc, List.cons_append, List.nil_append]
theorem plainB_one {l : List Nat} (h : Row l) (l0 : 0 < l.length) (h64 : l.length ≤ 64) : 49 ∈ plainB l := by
  refine few_one (plainB_few h h64) (fun z => ?_) (plainF_bts _ _)
  unfold plainB at z
  have s := runs_sum h
  have le := runs_le h h64
  cases e : runsL l with
  | nil =>
    rw [e] at s
    have : (0 : Nat) = l.length := s
    omega
  | cons r rs =>
    rw [e] at z le
    have p := runT_pos (pf_tab false) (r := r) (by have := le r (List.mem_cons_self ..); omega)
    have z : runT (tabW false) r ++ plainF rs (!false) = [] := z
    have := congrArg List.length z
    rw [List.length_append] at this
    have : _ + _ = 0 := this
    omega
theorem mx_tag {c : Nat} {w : List Nat} (hc : c = 48 ∨ c = 49) (h : Few w) : mxZ 0 (c :: w) ≤ 10 := by
  rcases hc with rfl | rfl
  · show max 0 (mxZ 1 w) ≤ 10
    have := (h.from (t := 1) (by omega)).2
    omega
  · show max 0 (mxZ 0 w) ≤ 10
    have := (h.from (t := 0) (by omega)).2
    omega
theorem row_facts {n k e m : Nat} {rows : List (List Nat)} (h : Good n rows) (hk : k < rows.length) (n8 : 8 ≤ n) (n64 : n ≤ 64) : (tagW rows e k = 48 ∨ tagW rows e k = 49) ∧ Few (telW rows e k) ∧ Bts (telW rows e k) ∧ (telW rows e k).length ≤ 3900 ∧ (tagW rows e k = 48 ∨ tagW rows e k = 49 ∧ 49 ∈ telW rows e k) := by
  have g := good_at h hk
  have g1 := good_at h (show k - 1 < rows.length by omega)
  unfold tagW telW
  split
  · have := plainB_len g.2.2 (by omega)
    exact ⟨.inr rfl, plainB_few g.2.2 (by omega), plainF_bts _ _, by omega, .inr ⟨rfl, plainB_one g.2.2 (by omega) (by omega)⟩⟩
  · exact ⟨.inl rfl, aboveB_few (by rw [g.2.1, g1.2.1]) (by omega), aboveB_bts _ _, aboveB_len (by rw [g.2.1, g1.2.1]) (by omega), .inl rfl⟩
theorem row_good {n k e m : Nat} {rows : List (List Nat)} (h : Good n rows) (hk : k < rows.length) (n8 : 8 ≤ n) (n64 : n ≤ 64) : NoMk (rowW rows e m k) ∧ emp (rowW rows e m k ++ mkL) = false := by
  obtain ⟨h1, h2, h3, h4, h5⟩ := row_facts (e := e) (m := m) h hk n8 n64
  exact ⟨noMk_pad (mx_tag h1 h2), not_emp h5⟩

--SPLIT
/-! ### bits followed -/
def BtsA (x : Fp.Ar) : Prop := ∀ y ∈ x, y.1 = 48 ∨ y.1 = 49
theorem BtsA.bts {x : Fp.Ar} (h : BtsA x) : Bts (x.map Prod.fst) := fun c hc => by
  obtain ⟨y, hy, rfl⟩ := List.mem_map.mp hc
  exact h y hy
theorem int_bit {c : Nat} (h : c = 48 ∨ c = 49) : PySem.intText? (sOf [c]) = some (if c = 49 then 1 else 0) ∧ atI (Str.ofString "10").cps.toList (if c = 49 then 1 else 0) = some (flipB c) := by
  rcases h with rfl | rfl
  · exact ⟨by decide +kernel, rfl⟩
  · exact ⟨by decide +kernel, rfl⟩
def spFollowed : Sp := fun vs H Q _ => ∃ (l : List Nat) (sp : Addr) (ws : List V) (sps : List Spl), vs = [.str (sOf l), .ref sp] ∧ H sp = some (.lst ws) ∧ SpsAt H ws sps ∧ Bts l ∧ (∀ s ∈ sps, BitS s) ∧ l.length ≤ 95000 ∧ sps.length ≤ 100 ∧
  ∀ p vs x H', H p = none → Same H H' → H' p = some (.lst vs) → TpsAt arV H' vs x → OkR l x → BtsA x → x.length ≤ l.length + 100 → Q (.ref p) H'
theorem ok_followed {A : Ad} (T : Txt w K mg base A) : FnOk P w K mg base CX0 1 A.a_followed A.d_followed P_followed spFollowed := by
  refine T.F_followed.ok sc_followed (fun vs H Q E h => ?_) (fun cdv Ar outer s H vs Q E hr h => ?_)
  · obtain ⟨l, sp, ws, sps, rfl, _⟩ := h
    rfl
  · obtain ⟨l, sp, ws, sps, rfl, hsp, hs, bl, bs, ll, ls, q⟩ := h
    refine ⟨_, (pss_cons (ps_setLc (i := 2) (own := [("_law_place", 5)]) (g := gName 5) (tt := tYes) (by rfl) sc_followed.nd rfl rfl (sw_true rfl rfl rfl (by decide +kernel)) (pi_range1 (by rfl) T.z_range (pa_cons (pe_callB call_len_str (by rfl) T.z_len PySem.boot_len (pa_cons (pv 0) pa_nil)) pa_nil)) (blkOk_by (own := [("_law_place", 5)]) (N := N_followed) (sc := defScope s_followed) (by decide +kernel)) (fun _ _ _ _ _ => pg_name (i := 5) sc_followed.nd rfl (Or.inl rfl)) (fun _ _ _ _ _ => pts_nil) (fun s5 H5 C5 cl5 fp5 => (pe_tupW (pa_cons (pe_ix ix_str (pv 0) (pv 5) (fun _ _ => rfl)) (pa_cons (pv 5) pa_nil)))))
      (pss_cons (ps_for PassesOwn.never rfl (pi_list (pv 1)) (pg_name (i := 3) sc_followed.nd rfl (Or.inl rfl))
      (pss_cons (ps_set (i := 4) sc_followed.nd rfl (Or.inl rfl) (pe_ix (r := rIxT K) ix_tup (pv 3) pe_int (fun _ _ => rfl)))
      (Evl.pss_cut (ps_if (PW.pt (pw_and (pt_cmpR op_eq (pe_ix (r := rIxT K) ix_tup (pv 3) pe_int (fun _ _ => rfl)) pe_str (nomark _)) (pw_and1 (pt_cmpR op_le (pv 4) (pe_callB (r := fun xs H Q => ∃ p ys, xs = [.ref p] ∧ (SqL K H p ys ∨ SqT K H p ys) ∧ Q (.int ys.length) H) call_len_seq (by rfl) T.z_len PySem.boot_len (pa_cons (pv 2) pa_nil)) (nomark _)))))
      (pss_one (ps_expr (pe_bm PySem.F.plainAttrs_list PySem.F.slot_list_insert PySem.F.type_list_insert mt_insert (pv 2) (pa_cons (pv 4) (pa_cons (pe_tupW (pa_cons (pe_ix (r := rIxT K) ix_tup (pv 3) pe_int (fun _ _ => rfl)) (pa_cons pe_non pa_nil))) pa_nil))))) pss_nil)
      (Evl.pss_cut (ps_if (PW.pt (pw_and (pt_cmpR op_eq (pe_ix (r := rIxT K) ix_tup (pv 3) pe_int (fun _ _ => rfl)) pe_str (nomark _)) (pw_and1 (pt_cmpR op_lt (pv 4) (pe_callB (r := fun xs H Q => ∃ p ys, xs = [.ref p] ∧ (SqL K H p ys ∨ SqT K H p ys) ∧ Q (.int ys.length) H) call_len_seq (by rfl) T.z_len PySem.boot_len (pa_cons (pv 2) pa_nil)) (nomark _)))))
      (pss_one (ps_expr (pe_bm PySem.F.plainAttrs_list PySem.F.slot_list_pop PySem.F.type_list_pop mt_popAt (pv 2) (pa_cons (pv 4) pa_nil)))) pss_nil)
      (pss_one (ps_if (PW.pt (pw_and (pt_cmpR op_eq (pe_ix (r := rIxT K) ix_tup (pv 3) pe_int (fun _ _ => rfl)) pe_str (nomark _)) (pw_and1 (pt_cmpR op_lt (pv 4) (pe_callB (r := fun xs H Q => ∃ p ys, xs = [.ref p] ∧ (SqL K H p ys ∨ SqT K H p ys) ∧ Q (.int ys.length) H) call_len_seq (by rfl) T.z_len PySem.boot_len (pa_cons (pv 2) pa_nil)) (nomark _)))))
      (pss_one (ps_asg (pe_tupW (pa_cons (pe_ix ix_str pe_str (pe_callTy call_int_str (by rfl) T.z_int (by decide +kernel) (pa_cons (pe_ix (r := rIxT K) ix_tup (pe_ix (r := rIxL K) ix_list (pv 2) (pv 4) (fun _ _ => rfl)) pe_int (fun _ _ => rfl)) pa_nil)) (fun _ _ => rfl)) (pa_cons pe_non pa_nil))) (pg_sub (pv 2) (pv 4) set_list))) pss_nil))))))
      (pss_one (ps_ret (pv 2))))), ?_⟩
    have hz : (sOf l).length ≤ sizeLine := by
      rw [sOf_len]
      exact sz (by omega)
    refine ⟨_, rfl, _, rfl, hz, _, rfl, ?_, ?_, fun D hD => ?_⟩
    · rw [sOf_len]
      omega
    · rw [sOf_len]
      omega
    rw [sOf_len, Int.toNat_natCast]
    refine lc_range (lo := 0) (n := l.length) (fun i H' => ∃ vs : List V, Same H H' ∧ H' D = some (.lst vs) ∧ TpsAt arV H' vs ((arr0 l).take i)) ⟨[], same_new hD, upd_same, trivial⟩ ?_ ?_
    · rintro i H1 hi ⟨vs, sm, hD1, ta⟩
      refine ⟨rfl, _, rfl, _, rfl, _, _, _, rfl, rfl, hz, (by rw [Int.zero_add]; exact sOf_at (List.getElem?_eq_getElem hi)), _, rfl, (by show 2 ≤ 100000; decide), fun t H2 nt s2 ht => ?_⟩
      have hD2 := s2 _ _ hD1
      have lts := ta.len
      rw [List.length_take, arr0_len] at lts
      have tD : t ≠ D := fun z => by
        rw [z, hD2] at ht
        cases ht
      have ht : H2 t = some (.tup (arV (l[i], some i))) := by
        rw [ht]
        show some (HO.tup [V.str (sOf [l[i]]), .int (0 + (i : Int))]) = some (.tup [V.str (sOf [l[i]]), .int (i : Int)])
        rw [Int.zero_add]
      refine ⟨_, hD2, szl (by omega), vs ++ [.ref t], Same.mut (sm.trans s2) hD, upd_same, ?_⟩
      rw [take_more _ _ _ (arr0_at hi)]
      refine TpsAt.push (TpsAt.mono (fun c xs hc => ?_) ta) (by rw [upd_ne tD]; exact ht)
      have hc2 := s2 _ _ hc
      have cD : c ≠ D := fun z => by
        rw [z, hD2] at hc2
        cases hc2
      rw [upd_ne cD]
      exact hc2
    rintro H1 ⟨vs, sm, hD1, ta⟩
    rw [List.take_of_length_le (Nat.le_of_eq (arr0_len l))] at ta
    have wl := hs.len
    refine ⟨_, rfl, sp, rfl, ⟨_, SqL.of (sm _ _ hsp)⟩, for_list (K := K) (a := sp) (xs := ws) (fun i σ H' => ∃ (vs : List V) (x : Fp.Ar) (y3 y4 y5 : Option V), σ = [some (.str (sOf l)), some (.ref sp), some (.ref D), y3, y4, y5] ∧ Same H H' ∧ H' D = some (.lst vs) ∧ TpsAt arV H' vs x ∧ OkR l x ∧ BtsA x ∧ x.length ≤ l.length + i) ⟨vs, arr0 l, none, none, none, rfl, sm, hD1, ta, okR_0 l, ?_, by rw [arr0_len]; exact Nat.le_refl _⟩ (fun i σ H' _ ⟨_, _, _, _, _, _, sm, _⟩ => SqL.of (sm _ _ hsp)) ?_ ?_⟩
    · intro y hy
      have : y.1 ∈ (arr0 l).map Prod.fst := List.mem_map.mpr ⟨y, hy, rfl⟩
      rw [arr0_bits] at this
      exact bl _ this
    · rintro k v σ H2 hv ⟨vs, x, y3, y4, y5, rfl, sm, hD2, ta, ok, bx, lx⟩
      obtain ⟨s1, a, es, rfl, ha⟩ := hs.get hv
      have ha2 := sm _ _ ha
      have bs1 := bs s1 (List.mem_of_getElem? es)
      have hk : k < 100 := by
        have := (List.getElem?_eq_some_iff.mp es).1
        omega
      let J : L2.St → Hp → Prop := fun σ H' => ∃ (vs : List V) (x : Fp.Ar), σ = [some (.str (sOf l)), some (.ref sp), some (.ref D), some (.ref a), some (.int (plc s1 : Int)), y5] ∧ Same H H' ∧ H' D = some (.lst vs) ∧ TpsAt arV H' vs x ∧ OkR l x ∧ BtsA x ∧ x.length ≤ l.length + (k + 1)
      have fin : ∀ σ H', J σ H' → ∃ (vs : List V) (x : Fp.Ar) (y3 y4 y5 : Option V), σ = [some (.str (sOf l)), some (.ref sp), some (.ref D), y3, y4, y5] ∧ Same H H' ∧ H' D = some (.lst vs) ∧ TpsAt arV H' vs x ∧ OkR l x ∧ BtsA x ∧ x.length ≤ l.length + (k + 1) := fun σ H' ⟨vs, x, h1, h2⟩ => ⟨vs, x, _, _, _, h1, h2⟩
      have lv := ta.len
      have up : ∀ {H3 : Hp} {o : HO}, Same H2 H3 → TpsAt arV (upd H3 D o) vs x := fun {H3 o} s3 => TpsAt.mono (fun c xs hc => by
        have cD : c ≠ D := fun z => by
          rw [z, hD2] at hc
          cases hc
        rw [upd_ne cD]
        exact s3 _ _ hc) ta
      cases s1 with
      | put n b =>
        refine ⟨_, rfl, _, _, _, .int (n : Int), rfl, rfl, SqT.of ha2, atI_nat (j := 1) rfl, J, ?_, ?_⟩
        · refine ⟨_, rfl, _, _, _, .str (Str.ofString "put"), rfl, rfl, SqT.of ha2, atI_nat (j := 0) rfl, rfl, _, rfl, iteD1 rfl ?_⟩
          refine ⟨_, rfl, _, rfl, _, _, rfl, .inl (SqL.of hD2), _, _, rfl, rfl, _, rfl, ite2 (fun e => ?_) (fun e => ?_)⟩
          · have le := of_decide_eq_true e
            refine ⟨_, rfl, .inl ⟨rfl, _, SqL.of hD2⟩, _, rfl, _, rfl, _, _, _, .str (sOf [b]), rfl, rfl, SqT.of ha2, atI_nat (j := 2) rfl, (by show 2 ≤ 100000; decide), fun t H3 nt s3 ht => ?_⟩
            have tD : t ≠ D := (ne_of_none hD2 nt).symm
            refine ⟨D, _, _, _, rfl, rfl, s3 _ _ hD2, szl (by omega), by omega, by omega, ?_⟩
            rw [Int.toNat_natCast]
            refine ⟨_, x.take n ++ (b, none) :: x.drop n, rfl, Same.mut (sm.trans s3) hD, upd_same, ?_, okR_put ok n b, fun y hy => ?_, ?_⟩
            · rw [List.append_assoc]
              exact TpsAt.app (ws := .ref t :: vs.drop n) (ys := (b, none) :: x.drop n) ⟨⟨t, rfl, by rw [upd_ne tD]; exact ht⟩, (up s3).drop n⟩ ((up s3).take n)
            · rcases List.mem_append.mp hy with z | z
              · exact bx y (List.mem_of_mem_take z)
              · rcases List.mem_cons.mp z with rfl | z
                · exact bs1
                · exact bx y (List.mem_of_mem_drop z)
            · rw [List.length_append, List.length_cons, List.length_take, List.length_drop]
              omega
          · exact ⟨vs, x, rfl, sm, hD2, ta, ok, bx, by omega⟩
        rintro σ H3 ⟨vs, x, rfl, sm, hD3, ta, ok, bx, lx⟩
        have ha3 := sm _ _ ha
        refine ⟨J, ?_, ?_⟩
        · refine ⟨_, rfl, _, _, _, .str (Str.ofString "put"), rfl, rfl, SqT.of ha3, atI_nat (j := 0) rfl, rfl, _, rfl, iteD0 (ne_word (by decide)) (iteF ?_)⟩
          exact ⟨vs, x, rfl, sm, hD3, ta, ok, bx, lx⟩
        rintro σ H4 ⟨vs, x, rfl, sm, hD4, ta, ok, bx, lx⟩
        have ha4 := sm _ _ ha
        refine ⟨_, rfl, _, _, _, .str (Str.ofString "put"), rfl, rfl, SqT.of ha4, atI_nat (j := 0) rfl, rfl, _, rfl, iteD0 (ne_word (by decide)) (iteF ?_)⟩
        exact fin _ _ ⟨vs, x, rfl, sm, hD4, ta, ok, bx, lx⟩
      | lose n =>
        refine ⟨_, rfl, _, _, _, .int (n : Int), rfl, rfl, SqT.of ha2, atI_nat (j := 1) rfl, ?_⟩
        refine ⟨fun σ H' => σ = [some (.str (sOf l)), some (.ref sp), some (.ref D), some (.ref a), some (.int (n : Int)), y5] ∧ H2 = H', ?_, ?_⟩
        · refine ⟨_, rfl, _, _, _, .str (Str.ofString "lose"), rfl, rfl, SqT.of ha2, atI_nat (j := 0) rfl, rfl, _, rfl, iteD0 (ne_word (by decide)) (iteF ?_)⟩
          exact ⟨rfl, rfl⟩
        rintro σ _ ⟨rfl, rfl⟩
        refine ⟨J, ?_, ?_⟩
        · refine ⟨_, rfl, _, _, _, .str (Str.ofString "lose"), rfl, rfl, SqT.of ha2, atI_nat (j := 0) rfl, rfl, _, rfl, iteD1 rfl ?_⟩
          refine ⟨_, rfl, _, rfl, _, _, rfl, .inl (SqL.of hD2), _, _, rfl, rfl, _, rfl, ite2 (fun e => ?_) (fun e => ?_)⟩
          · have lt := of_decide_eq_true e
            have ln : n < vs.length := by omega
            refine ⟨_, rfl, .inl ⟨rfl, _, SqL.of hD2⟩, _, rfl, D, vs, _, n, vs[n], rfl, rfl, hD2, by omega, by omega, (ixN_seq (Evl.ixN_nat ln)).1, List.getElem?_eq_getElem ln, ?_⟩
            refine ⟨_, x.eraseIdx n, rfl, Same.mut sm hD, upd_same, ?_, okR_erase ok n, fun y hy => bx y ((List.eraseIdx_sublist x n).subset hy), ?_⟩
            · rw [List.eraseIdx_eq_take_drop_succ, List.eraseIdx_eq_take_drop_succ]
              exact TpsAt.app ((up (Same.refl _)).drop (n + 1)) ((up (Same.refl _)).take n)
            · have := (List.eraseIdx_sublist x n).length_le
              omega
          · exact ⟨vs, x, rfl, sm, hD2, ta, ok, bx, by omega⟩
        rintro σ H4 ⟨vs, x, rfl, sm, hD4, ta, ok, bx, lx⟩
        have ha4 := sm _ _ ha
        refine ⟨_, rfl, _, _, _, .str (Str.ofString "lose"), rfl, rfl, SqT.of ha4, atI_nat (j := 0) rfl, rfl, _, rfl, iteD0 (ne_word (by decide)) (iteF ?_)⟩
        exact fin _ _ ⟨vs, x, rfl, sm, hD4, ta, ok, bx, lx⟩
      | turn n =>
        refine ⟨_, rfl, _, _, _, .int (n : Int), rfl, rfl, SqT.of ha2, atI_nat (j := 1) rfl, ?_⟩
        refine ⟨fun σ H' => σ = [some (.str (sOf l)), some (.ref sp), some (.ref D), some (.ref a), some (.int (n : Int)), y5] ∧ H2 = H', ?_, ?_⟩
        · refine ⟨_, rfl, _, _, _, .str (Str.ofString "turn"), rfl, rfl, SqT.of ha2, atI_nat (j := 0) rfl, rfl, _, rfl, iteD0 (ne_word (by decide)) (iteF ?_)⟩
          exact ⟨rfl, rfl⟩
        rintro σ _ ⟨rfl, rfl⟩
        refine ⟨fun σ H' => σ = [some (.str (sOf l)), some (.ref sp), some (.ref D), some (.ref a), some (.int (n : Int)), y5] ∧ H2 = H', ?_, ?_⟩
        · refine ⟨_, rfl, _, _, _, .str (Str.ofString "turn"), rfl, rfl, SqT.of ha2, atI_nat (j := 0) rfl, rfl, _, rfl, iteD0 (ne_word (by decide)) (iteF ?_)⟩
          exact ⟨rfl, rfl⟩
        rintro σ _ ⟨rfl, rfl⟩
        refine ⟨_, rfl, _, _, _, .str (Str.ofString "turn"), rfl, rfl, SqT.of ha2, atI_nat (j := 0) rfl, rfl, _, rfl, iteD1 rfl ?_⟩
        refine ⟨_, rfl, _, rfl, _, _, rfl, .inl (SqL.of hD2), _, _, rfl, rfl, _, rfl, ite2 (fun e => ?_) (fun e => ?_)⟩
        · have lt := of_decide_eq_true e
          have ln : n < x.length := by omega
          obtain ⟨t0, hv0, ht0⟩ := ta.get (List.getElem?_eq_getElem ln)
          have b0 := bx _ (List.getElem_mem ln)
          obtain ⟨ib, ia⟩ := int_bit b0
          refine ⟨_, rfl, _, rfl, _, _, _, _, rfl, rfl, SqL.of hD2, atI_nat hv0, _, _, _, .str (sOf [x[n].1]), rfl, rfl, SqT.of ht0, atI_nat (j := 0) rfl, _, _, rfl, ib, (by rw [sOf_len]; show 1 ≤ 640; decide), _, _, _, rfl, rfl, (by decide), ia, (by show 2 ≤ 100000; decide), fun t H3 nt s3 ht => ?_⟩
          have tD : t ≠ D := (ne_of_none hD2 nt).symm
          refine ⟨_, rfl, _, rfl, _, _, _, n, rfl, rfl, s3 _ _ hD2, Evl.ixN_nat (by omega), ?_⟩
          refine fin _ _ ⟨_, x.set n (flipB x[n].1, none), rfl, Same.mut (sm.trans s3) hD, upd_same, ?_, okR_set ok ln, fun y hy => ?_, ?_⟩
          · rw [List.set_eq_take_append_cons_drop, if_pos (by omega), List.set_eq_take_append_cons_drop, if_pos ln]
            exact TpsAt.app (ws := .ref t :: vs.drop (n + 1)) (ys := (flipB x[n].1, none) :: x.drop (n + 1)) ⟨⟨t, rfl, by rw [upd_ne tD]; exact ht⟩, (up s3).drop (n + 1)⟩ ((up s3).take n)
          · rcases List.mem_or_eq_of_mem_set hy with z | rfl
            · exact bx y z
            · exact flipB_bit _
          · rw [List.length_set]
            omega
        · exact fin _ _ ⟨vs, x, rfl, sm, hD2, ta, ok, bx, by omega⟩
    · rintro σ H2 ⟨vs, x, y3, y4, y5, rfl, sm, hD2, ta, ok, bx, lx⟩
      exact ⟨_, rfl, q D vs x H2 hD sm hD2 ta ok bx (by omega)⟩
--SPLIT
/-! ### where a stretch of what was sent begins in what came -/
theorem rgV_pl (b e : Nat) : rgV (b : Int) (e : Int) = ((List.range (e - b)).map fun j => some (b + j)).map plV := by
  unfold rgV
  rw [show ((e : Int) - (b : Int)).toNat = e - b by omega, List.map_map]
  refine List.map_congr_left fun i _ => ?_
  show V.int ((b : Int) + (i : Int)) = V.int ((b + i : Nat) : Int)
  congr 1
def spCame : Sp := fun vs H Q _ => ∃ (pp : Addr) (pl : List (Option Nat)) (b e : Nat) (x y : Int), vs = [.ref pp, .int x, .int y] ∧ x = b ∧ y = e ∧ H pp = some (.lst (pl.map plV)) ∧ b ≤ e ∧ e ≤ 99000 ∧ pl.length ≤ 99000 ∧ (∀ H', Same H H' → Q .non H') ∧
  ∀ (i : Nat) H', Same H H' → (pl.drop i).take (e - b) = ((List.range (e - b)).map fun j => some (b + j)) → Q (.int (i : Int)) H'
theorem ok_came {A : Ad} (T : Txt w K mg base A) : FnOk P w K mg base CX0 1 A.a_came A.d_came P_came spCame := by
  refine T.F_came.ok sc_came (fun vs H Q E h => ?_) (fun cdv Ar outer s H vs Q E hr h => ?_)
  · obtain ⟨pp, pl, b, e, x, y, rfl, _⟩ := h
    rfl
  · obtain ⟨pp, pl, b, e, _, _, rfl, rfl, rfl, hp, be, e9, l9, qn, qs⟩ := h
    refine ⟨_, (pss_cons (ps_if (pt_cmpR (r := rIn K true) op_notIn_seq (pv 1) (pv 0) (by rfl))
      (pss_one (ps_ret pe_non)) pss_nil)
      (pss_cons (ps_set (i := 3) sc_came.nd rfl (Or.inl rfl) (pe_bm PySem.F.plainAttrs_list PySem.F.slot_list_index PySem.F.type_list_index mt_index (pv 0) (pa_cons (pv 1) pa_nil)))
      (pss_cons (ps_if (pt_cmpR (op_neD hr.units) (pe_slice sl_list (pv 0) (po_some (pv 3)) (po_some (pe_op op_sub (pe_op op_add (pv 3) (pv 2)) (pv 1)))) (pe_listRg (by rfl) (by rfl) T.z_list (prg_2 (by rfl) T.z_range (pv 1) (pv 2))) (nomark _))
      (pss_one (ps_ret pe_non)) pss_nil)
      (pss_one (ps_ret (pv 3)))))), ?_⟩
    refine ⟨_, rfl, _, rfl, pp, _, rfl, .inl (SqL.of hp), rfl, pl_flat pl, _, rfl, ?_⟩
    show if (!inV (.int (b : Int)) (pl.map plV)) = true then _ else _
    rw [pl_in]
    by_cases hin : some b ∈ pl
    · refine iteN0 hin ?_
      obtain ⟨j, hj, hmin⟩ := least_nat (p := fun j => pl[j]? = some (some b)) (List.getElem?_of_mem hin)
      have jl : j < pl.length := (List.getElem?_eq_some_iff.mp hj).1
      refine ⟨_, rfl, .inl ⟨rfl, _, SqL.of hp⟩, _, rfl, pp, _, _, j, plV (some b), rfl, rfl, SqL.of hp, rfl, pl_flat pl, (by rw [List.getElem?_map, hj]; rfl), (by rw [pl_eq]; exact decide_eq_true rfl), (fun m z hm hz => ?_), ?_⟩
      · rw [List.getElem?_map] at hz
        cases ey : pl[m]? with
        | none =>
          rw [ey] at hz
          cases hz
        | some y =>
          rw [ey] at hz
          rw [← Option.some.inj hz, pl_eq]
          exact decide_eq_false fun z => hmin m hm (by rw [ey, z])
      refine ⟨_, rfl, _, rfl, _, rfl, _, rfl, _, rfl, _, _, rfl, rfl, _, rfl, _, _, rfl, rfl, _, rfl, _, _, rfl, SqL.of hp, fun p2 hp2 => ?_⟩
      rw [show (j : Int) + (e : Int) - (b : Int) = ((j + (e - b) : Nat) : Int) by omega, cutV_mid, show j + (e - b) - j = e - b by omega, ← List.map_drop, ← List.map_take]
      refine ⟨_, rfl, _, rfl, _, _, rfl, rfl, RgOk.of_le (by omega) (by omega) (by omega) (by omega), fun p3 hp3 => ?_⟩
      rw [rgV_pl]
      have n23 : p2 ≠ p3 := ne_of_none upd_same hp3
      refine ⟨.list (((pl.drop j).take (e - b)).map plD), .list (((List.range (e - b)).map fun j => some (b + j)).map plD), .lst (SqL.of (by rw [upd_ne n23]; exact upd_same)) (dp_all fun x _ => dp_pl x), .lst (SqL.of upd_same) (dp_all fun x _ => dp_pl x), (DOk.list fun x _ => plD_ok x).shaped, (DOk.list fun x _ => plD_ok x).shaped, _, rfl, ?_⟩
      have ee : PyData.eqv (.list (((pl.drop j).take (e - b)).map plD)) (.list (((List.range (e - b)).map fun j => some (b + j)).map plD)) = decide ((pl.drop j).take (e - b) = (List.range (e - b)).map fun j => some (b + j)) := by
        rw [← eqvAll_map plD_eqv]
        simp only [PyData.eqv]
      rw [ee]
      by_cases z : (pl.drop j).take (e - b) = (List.range (e - b)).map fun j => some (b + j)
      · refine iteN0 z ?_
        exact ⟨_, rfl, qs j _ ((same_new hp2).trans (same_new hp3)) z⟩
      · refine iteN1 z ?_
        exact qn _ ((same_new hp2).trans (same_new hp3))
    · refine iteN1 hin ?_
      exact qn H (Same.refl H)
--SPLIT
/-! ### rows that came whole -/
theorem tell_row {n k e m : Nat} {rows : List (List Nat)} {ah : List Nat × Bool} (h : Good n rows) (hk : k < rows.length) (n8 : 8 ≤ n) (n64 : n ≤ 64) (ha : k % e = 0 ∨ ah = (rows.getD (k - 1) [], true)) : tellG n ah (rowW rows e m k ++ mkL) = (rows.getD k [], true) := by
  have g := good_at h hk
  have g1 := good_at h (show k - 1 < rows.length by omega)
  have nomem : ∀ (w : List Nat) (p : Nat), ¬ 49 ∈ (w ++ List.replicate p 48).drop w.length := fun w p y => by
    rw [List.drop_left] at y
    have := (List.mem_replicate.mp y).2
    cases this
  have bd : bodyL (rowW rows e m k ++ mkL) = telW rows e k ++ List.replicate (padN rows e m k + 11) 48 := stW_told _ _ _
  have e0 : (rowW rows e m k ++ mkL)[0]? = some (tagW rows e k) := rfl
  have res : resG n ah (rowW rows e m k ++ mkL) = some (rows.getD k [], (telW rows e k).length) := by
    unfold resG
    rw [bd, e0]
    by_cases z : k % e = 0
    · have t1 : tagW rows e k = 49 := by
        unfold tagW
        rw [if_pos z]
      have t2 : telW rows e k = plainB (rows.getD k []) := by
        unfold telW
        rw [if_pos z]
      rw [t1, if_pos rfl, t2]
      have := rd_back g.2.2 (by omega) (by omega) (List.replicate (padN rows e m k + 11) 48)
      rw [g.2.1] at this
      exact this
    · have t1 : tagW rows e k = 48 := by
        unfold tagW
        rw [if_neg z]
      have t2 : telW rows e k = aboveB (rows.getD (k - 1) []) (rows.getD k []) := by
        unfold telW
        rw [if_neg z]
      have ha : ah = (rows.getD (k - 1) [], true) := ha.resolve_left z
      rw [t1, if_neg (by decide), ha, if_pos rfl, t2]
      exact rdS_back (codT (n := (rows.getD (k - 1) []).length) (by omega)) (ab := rows.getD (k - 1) []) (l := rows.getD k []) rfl (by omega) g.2.2 (List.replicate (padN rows e m k + 11) 48)
  have rg : rdG n ah (rowW rows e m k ++ mkL) = some (rows.getD k []) := by
    unfold rdG
    rw [res]
    show (if 49 ∈ (bodyL (rowW rows e m k ++ mkL)).drop (telW rows e k).length then none else some (rows.getD k [])) = _
    rw [bd, if_neg (nomem _ _)]
  unfold tellG
  rw [rg]
def wsP (rows : List (List Nat)) (e m : Nat) : List (List Nat) := [] :: ((List.range rows.length).map (rowW rows e m) ++ List.replicate 5 [49])
theorem page_ws (rows : List (List Nat)) (e m : Nat) : pageB rows e m = blk (wsP rows e m) ++ [49] := by
  have := page_blk rows e m [] []
  rw [List.nil_append, List.append_nil] at this
  exact this
theorem ws_no {n e m : Nat} {rows : List (List Nat)} (h : Good n rows) (n8 : 8 ≤ n) (n64 : n ≤ 64) : ∀ w ∈ wsP rows e m, NoMk w := fun w hw => by
  unfold wsP at hw
  rcases List.mem_cons.mp hw with rfl | hw
  · exact noMk_short (by decide)
  rcases List.mem_append.mp hw with hw | hw
  · obtain ⟨k, hk, rfl⟩ := List.mem_map.mp hw
    exact (row_good h (List.mem_range.mp hk) n8 n64).1
  · rw [(List.mem_replicate.mp hw).2]
    exact noMk_short (by decide)
theorem ws_len (rows : List (List Nat)) (e m : Nat) : (wsP rows e m).length = rows.length + 6 := by
  unfold wsP
  rw [List.length_cons, List.length_append, List.length_map, List.length_range, List.length_replicate]
theorem ws_at {rows : List (List Nat)} {e m k : Nat} (hk : k < rows.length) : (wsP rows e m).getD (k + 1) [] = rowW rows e m k := by
  unfold wsP
  rw [List.getD_cons_succ, List.getD_eq_getElem?_getD, List.getElem?_append_left (by rw [List.length_map, List.length_range]; exact hk), List.getElem?_map, List.getElem?_range hk]
  rfl
/-- row k came whole: where, and what is told there -/
def Cm (rows : List (List Nat)) (e m n : Nat) (x : Fp.Ar) (F : List (List Nat)) (k : Nat) : Prop := ∃ i s, (endsL (x.map Prod.fst))[s]? = some (i + 12) ∧ (endsL (x.map Prod.fst))[s + 1]? = some (i + 24 + (rowW rows e m k).length) ∧ (x.map Prod.snd)[i + 12 + (rowW rows e m k).length]? = some (some ((endsL (pageB rows e m)).getD (k + 1) 0 - 12)) ∧ (s < F.length → ahK n F (s + 1) = (rows.getD k [], true))
theorem ends_page {n e m k : Nat} {rows : List (List Nat)} (h : Good n rows) (n8 : 8 ≤ n) (n64 : n ≤ 64) (hk : k < rows.length) : k + 1 < (endsL (pageB rows e m)).length ∧ 12 ≤ (endsL (pageB rows e m)).getD k 0 ∧ (endsL (pageB rows e m)).getD (k + 1) 0 = (endsL (pageB rows e m)).getD k 0 + (rowW rows e m k).length + 12 := by
  have := sent_at (Q := [49]) (ws_no (e := e) (m := m) h n8 n64) (k := k) (by rw [ws_len]; omega)
  rw [ws_at hk, ← page_ws] at this
  exact ⟨this.1, this.2.1, this.2.2.1⟩
theorem strR_at {F F' : List (List Nat)} {b : Bool} (h : StrR F F' b) {s : Nat} (hs : s < F'.length) : F'[s]? = F[s]? := by
  rcases h with ⟨_, a, _, _, _, _, rfl⟩ | ⟨_, _, rfl⟩
  · rw [List.length_take] at hs
    exact List.getElem?_take_of_lt (by omega)
  · rfl
theorem cm_step {n e m k i : Nat} {rows F : List (List Nat)} {x : Fp.Ar} {bb : Bool} (h : Good n rows) (n8 : 8 ≤ n) (n64 : n ≤ 64) (hk : k < rows.length) (ok : OkR (pageB rows e m) x) (sF : StrR (sttL (x.map Prod.fst)) F bb)
    (ci : ((x.map Prod.snd).drop i).take ((endsL (pageB rows e m)).getD (k + 1) 0 - ((endsL (pageB rows e m)).getD k 0 - 12)) = (List.range ((endsL (pageB rows e m)).getD (k + 1) 0 - ((endsL (pageB rows e m)).getD k 0 - 12))).map fun j => some ((endsL (pageB rows e m)).getD k 0 - 12 + j))
    (pr : k % e = 0 ∨ ∃ k', k = k' + 1 ∧ Cm rows e m n x F k') : ∃ s, (endsL (x.map Prod.fst))[s]? = some (i + 12) ∧ (s < F.length → ahK n F (s + 1) = (rows.getD k [], true)) ∧ Cm rows e m n x F k := by
  obtain ⟨_, p2, p3⟩ := ends_page (e := e) (m := m) h n8 n64 hk
  rw [show (endsL (pageB rows e m)).getD (k + 1) 0 - ((endsL (pageB rows e m)).getD k 0 - 12) = (rowW rows e m k).length + 24 by omega] at ci
  rw [page_ws] at ci ok
  have cs := came_str (Q := [49]) (ws_no (e := e) (m := m) h n8 n64) (k := k) (i := i) (by rw [ws_len]; omega) ok (by rw [ws_at hk]; exact ci)
  rw [ws_at hk, ← page_ws] at cs
  obtain ⟨s, c1, c2, c3, c4, c5⟩ := cs
  have tl : s < F.length → ahK n F (s + 1) = (rows.getD k [], true) := fun hs => by
    have fs : F.getD s [] = rowW rows e m k ++ mkL := by
      rw [List.getD_eq_getElem?_getD, strR_at sF hs, c3]
      rfl
    show tellG n (ahK n F s) (F.getD s []) = _
    rw [fs]
    refine tell_row h hk n8 n64 ?_
    rcases pr with z | ⟨k', rfl, i', s', d1, d2, d3, d4⟩
    · exact .inl z
    · refine .inr ?_
      rw [← page_ws] at ok
      have ei : i = i' + 12 + (rowW rows e m k').length := place_once ok c5 d3
      have es : s = s' + 1 := ends_uniq c1 (by rw [d2]; congr 1; omega)
      rw [es]
      exact d4 (by omega)
  exact ⟨s, c1, tl, i, s, c1, c2, c4, tl⟩
--SPLIT
/-! ### what the law asks of what came -/
theorem ints_flat : ∀ ns : List Nat, (ns.map iV).all flatV = true
  | [] => rfl
  | n :: r => ints_flat r
theorem iV_eq (n : Nat) (b : Nat) : eqV (iV n) (.int (b : Int)) = decide (n = b) := by
  show ((n : Int) == (b : Int)) = _
  by_cases e : n = b
  · rw [e]
    simp
  · have : ¬ ((n : Int) = (b : Int)) := fun z => e (Int.ofNat.inj z)
    simp [e, this]
theorem tag_ok (b : Bool) : PyData.strOk (tagS b) = true := by
  cases b <;> decide +kernel
def tdP (x : List Nat × Bool) : PyData := .tuple [.str (sOf x.1), .str (tagS x.2)]
theorem tdP_ok {x : List Nat × Bool} (h : AhOk x) : DOk (tdP x) 1 := by
  have h1 := DOk.str h.2.codes
  have h2 := DOk.word (tag_ok x.2)
  refine ⟨?_, ?_⟩
  · unfold tdP
    have a := h1.1
    have b := h2.1
    simp only [PyData.canLay0, PyData.canLayAll0] at a b ⊢
    rw [a, b]
    rfl
  · unfold tdP
    simp only [PyData.depth, PyData.depthAll]
    decide
def spGood : Sp := fun vs H Q _ => ∃ (pg ar tp tr : Addr) (rows : List (List Nat)) (n e m : Nat) (avs ts : List V) (x : Fp.Ar) (F : List (List Nat)) (bb : Bool) (ev : Int), vs = [.ref pg, .int ev, .str (sOf (pageB rows e m)), .ref ar, .ref tp] ∧ ev = e ∧ H pg = some (.tup (rows.map sV)) ∧ Good n rows ∧ 8 ≤ n ∧ n ≤ 64 ∧ rows.length ≤ 24 ∧ 1 ≤ e ∧ e ≤ 4 ∧ (pageB rows e m).length ≤ 95000 ∧ H ar = some (.lst avs) ∧ TpsAt arV H avs x ∧ OkR (pageB rows e m) x ∧ BtsA x ∧ x.length ≤ 96000 ∧ H tp = some (.tup [.ref tr, .bl bb]) ∧ H tr = some (.lst ts) ∧ TdAt H ts (tdsL n F F.length) ∧ StrR (sttL (x.map Prod.fst)) F bb ∧ ∀ H', Same H H' → Q (.bl true) H'
theorem ok_good {A : Ad} (T : Txt w K mg base A) : FnOk P w K mg base CX0 3 A.a_good A.d_good P_good spGood := by
  have G_lmark_ends := ok_lmark_ends (P := P) (w := w) (base := base) T
  have G_came := ok_came (P := P) (w := w) (base := base) T
  have G_lstretches := ok_lstretches (P := P) (w := w) (base := base) T
  refine T.F_good.ok sc_good (fun vs H Q E h => ?_) (fun cdv Ar outer s H vs Q E hr h => ?_)
  · obtain ⟨pg, ar, tp, tr, rows, n, e, m, avs, ts, x, F, bb, ev, rfl, _⟩ := h
    rfl
  · obtain ⟨pg, ar, tp, tr, rows, n, e, m, avs, ts, x, F, bb, _, rfl, rfl, hpg, hg, n8, n64, r24, e1, e4, lP, har, ta, ok, bx, lx, htp, htr, td, sF, q⟩ := h
    refine ⟨_, (pss_cons (ps_set (i := 5) sc_good.nd rfl (Or.inl rfl) (pe_join pe_str (pe_lc (own := [("_law_bit", 13), ("_law_place", 14)]) (g := gTup K 2 (gCons (gName 13) (gCons (gName 14) gNil))) (tt := tYes) (by rfl) sc_good.nd (pi_list (pv 3)) (blkOk_by (own := [("_law_bit", 13), ("_law_place", 14)]) (N := N_good) (sc := defScope s_good) (by decide +kernel)) (fun _ _ _ _ _ => pg_tup (by rfl) (pgs_cons (pg_name (i := 13) sc_good.nd rfl (Or.inl rfl)) (pgs_cons (pg_name (i := 14) sc_good.nd rfl (Or.inl rfl)) pgs_nil))) (fun _ _ _ _ _ => pts_nil) (fun _ _ _ _ _ => (pv 13)))))
      (pss_cons (ps_setLc (i := 6) (own := [("_law_bit", 13), ("_law_place", 14)]) (g := gTup K 2 (gCons (gName 13) (gCons (gName 14) gNil))) (tt := tYes) (by rfl) sc_good.nd rfl rfl (sw_true rfl rfl rfl (by decide +kernel)) (pi_list (pv 3)) (blkOk_by (own := [("_law_bit", 13), ("_law_place", 14)]) (N := N_good) (sc := defScope s_good) (by decide +kernel)) (fun _ _ _ _ _ => pg_tup (by rfl) (pgs_cons (pg_name (i := 13) sc_good.nd rfl (Or.inl rfl)) (pgs_cons (pg_name (i := 14) sc_good.nd rfl (Or.inl rfl)) pgs_nil))) (fun _ _ _ _ _ => pts_nil) (fun _ _ _ _ _ => (pv 14)))
      (pss_cons (ps_set (i := 7) sc_good.nd rfl (Or.inl rfl) (pe_call G_lmark_ends (hr.mono (by decide)) (by rfl) T.g_lmark_ends T.F_lmark_ends.kp T.b_lmark_ends .nil pass0 (pa_cons (pv 2) pa_nil)))
      (pss_cons (ps_set (i := 8) sc_good.nd rfl (Or.inl rfl) (pe_call G_lmark_ends (hr.mono (by decide)) (by rfl) T.g_lmark_ends T.F_lmark_ends.kp T.b_lmark_ends .nil pass0 (pa_cons (pv 5) pa_nil)))
      (pss_cons (ps_if (pt_cmpR op_ne (pe_callB (r := fun xs H Q => ∃ p ys, xs = [.ref p] ∧ (SqL K H p ys ∨ SqT K H p ys) ∧ Q (.int ys.length) H) call_len_seq (by rfl) T.z_len PySem.boot_len (pa_cons (pe_ix (r := rIxT K) ix_tup (pv 4) pe_int (fun _ _ => rfl)) pa_nil)) (pe_callB (r := fun xs H Q => ∃ p ys, xs = [.ref p] ∧ (SqL K H p ys ∨ SqT K H p ys) ∧ Q (.int ys.length) H) call_len_seq (by rfl) T.z_len PySem.boot_len (pa_cons (pe_ix (r := rIxT K) ix_tup (pe_call G_lstretches (hr.mono (by decide)) (by rfl) T.g_lstretches T.F_lstretches.kp T.b_lstretches .nil pass0 (pa_cons (pv 5) pa_nil)) pe_int (fun _ _ => rfl)) pa_nil)) (nomark _))
      (pss_one (ps_ret pe_bl)) pss_nil)
      (pss_cons (ps_set (i := 9) sc_good.nd rfl (Or.inl rfl) pe_bl)
      (pss_cons (ps_for PassesOwn.never rfl (pi_range1 (by rfl) T.z_range (pa_cons (pe_callB (r := fun xs H Q => ∃ p ys, xs = [.ref p] ∧ (SqL K H p ys ∨ SqT K H p ys) ∧ Q (.int ys.length) H) call_len_seq (by rfl) T.z_len PySem.boot_len (pa_cons (pv 0) pa_nil)) pa_nil)) (pg_name (i := 10) sc_good.nd rfl (Or.inl rfl))
      (pss_cons (ps_set (i := 11) sc_good.nd rfl (Or.inl rfl) (pe_call G_came (hr.mono (by decide)) (by rfl) T.g_came T.F_came.kp T.b_came .nil pass0 (pa_cons (pv 6) (pa_cons (pe_op op_sub (pe_ix (r := rIxL K) ix_list (pv 7) (pv 10) (fun _ _ => rfl)) pe_int) (pa_cons (pe_ix (r := rIxL K) ix_list (pv 7) (pe_op op_add (pv 10) pe_int) (fun _ _ => rfl)) pa_nil)))))
      (Evl.pss_cut (ps_set (i := 9) sc_good.nd rfl (Or.inl rfl) (pe_and (pe_cmpR op_notN (pv 11) pe_non (nomark _)) (pe_one (pe_or (pv 9) (pe_one (pe_cmpR op_eq (pe_op op_sub (pv 10) (pe_op op_mul (pe_op op_fdiv (pv 10) (pv 1)) (pv 1))) pe_int (nomark _)))))))
      (pss_one (ps_if (pt_val (pv 9))
      (pss_cons (ps_set (i := 12) sc_good.nd rfl (Or.inl rfl) (pe_bm PySem.F.plainAttrs_list PySem.F.slot_list_index PySem.F.type_list_index mt_index (pv 8) (pa_cons (pe_op op_add (pv 11) pe_int) pa_nil)))
      (pss_one (ps_if (PW.pt (pw_and (pt_cmpR op_lt (pv 12) (pe_callB (r := fun xs H Q => ∃ p ys, xs = [.ref p] ∧ (SqL K H p ys ∨ SqT K H p ys) ∧ Q (.int ys.length) H) call_len_seq (by rfl) T.z_len PySem.boot_len (pa_cons (pe_ix (r := rIxT K) ix_tup (pv 4) pe_int (fun _ _ => rfl)) pa_nil)) (nomark _)) (pw_and1 (pt_cmpR (op_neD hr.units) (pe_ix (r := rIxL K) ix_list (pe_ix (r := rIxT K) ix_tup (pv 4) pe_int (fun _ _ => rfl)) (pv 12) (fun _ _ => rfl)) (pe_tup (pa_cons (pe_ix (r := rIxT K) ix_tup (pv 0) (pv 10) (fun _ _ => rfl)) (pa_cons pe_str pa_nil))) (nomark _)))))
      (pss_one (ps_ret pe_bl)) pss_nil))) pss_nil)))))
      (pss_one (ps_ret pe_bl))))))))), ?_⟩
    have lav := ta.len
    have lB : (x.map Prod.fst).length = x.length := List.length_map ..
    -- the bits
    refine ⟨⟨_, rfl⟩, _, rfl, ar, rfl, ⟨_, SqL.of har⟩, fun D hD => lc_list (K := K) (a := ar) (xs := avs) (fun i H' => Same H H' ∧ H' D = some (.lst (cells ((x.map Prod.fst).take i)))) ⟨same_new hD, upd_same⟩ (fun i H' _ hh => SqL.of (hh.1 _ _ har)) ?_ ?_⟩
    · rintro k v H1 hv ⟨sm, hD1⟩
      obtain ⟨t, y, hy, rfl, ht⟩ := ta.getV hv
      have hk := (List.getElem?_eq_some_iff.mp hy).1
      refine ⟨t, _, rfl, SqT.of (sm _ _ ht), rfl, _, _, rfl, _, _, rfl, rfl, rfl, _, rfl, _, hD1, ?_, Same.mut sm hD, ?_⟩
      · rw [cells_len, List.length_take]
        exact szl (by omega)
      · rw [upd_same, take_more _ k y.1 (by rw [List.getElem?_map, hy]; rfl), ← cells_app]
    rintro H1 ⟨s1, hD1⟩
    rw [show avs.length = (x.map Prod.fst).length by omega, List.take_length] at hD1
    refine ⟨_, _, (x.map Prod.fst).map fun c => sOf [c], rfl, rfl, .inl (SqL.of (by rw [← cells_strs]; exact hD1)), join_size (by omega), ?_⟩
    rw [join_cells]
    have har1 := s1 _ _ har
    -- the places
    refine ⟨_, rfl, ar, rfl, ⟨_, SqL.of har1⟩, fun D2 hD2 => lc_list (K := K) (a := ar) (xs := avs) (fun i H' => Same H1 H' ∧ H' D2 = some (.lst (((x.map Prod.snd).take i).map plV))) ⟨same_new hD2, upd_same⟩ (fun i H' _ hh => SqL.of (hh.1 _ _ har1)) ?_ ?_⟩
    · rintro k v H2 hv ⟨sm, hD3⟩
      obtain ⟨t, y, hy, rfl, ht⟩ := ta.getV hv
      have hk := (List.getElem?_eq_some_iff.mp hy).1
      refine ⟨t, _, rfl, SqT.of (sm _ _ (s1 _ _ ht)), rfl, _, _, rfl, _, _, rfl, rfl, rfl, _, rfl, _, hD3, ?_, Same.mut sm hD2, ?_⟩
      · rw [List.length_map, List.length_take]
        exact szl (by omega)
      · rw [upd_same, take_more _ k y.2 (by rw [List.getElem?_map, hy]; rfl), List.map_append]
        rfl
    rintro H2 ⟨s2, hD3⟩
    have lS : (x.map Prod.snd).length = x.length := List.length_map ..
    rw [show avs.length = (x.map Prod.snd).length by omega, List.take_length] at hD3
    have s02 := s1.trans s2
    -- the ends
    refine ⟨_, rfl, pageB rows e m, rfl, by omega, fun pe H3 ne3 s3 hpe => ?_⟩
    refine ⟨_, rfl, x.map Prod.fst, rfl, by omega, fun ph H4 ne4 s4 hph => ?_⟩
    have s04 := (s02.trans s3).trans s4
    refine ⟨_, rfl, _, _, _, .ref tr, rfl, rfl, SqT.of (s04 _ _ htp), atI_nat (j := 0) rfl, _, _, rfl, .inl (SqL.of (s04 _ _ htr)), _, rfl, x.map Prod.fst, rfl, bx.bts, by omega, fun p5 H5 F' b' s5 tol sr => ?_⟩
    obtain ⟨rfl, rfl⟩ := StrR.uniq sF sr
    obtain ⟨r5, hp5, hr5⟩ := tol
    have s05 := s04.trans s5
    refine ⟨_, _, _, .ref r5, rfl, rfl, SqT.of hp5, atI_nat (j := 0) rfl, _, _, rfl, .inl (SqL.of hr5), rfl, _, rfl, iteN0 (vint.mpr ?_) ?_⟩
    · rw [td.len, tds_len, List.length_map]
    have hpe5 := s5 _ _ (s4 _ _ hpe)
    have hph5 := s5 _ _ hph
    have hpl5 := s5 _ _ (s4 _ _ (s3 _ _ hD3))
    have ltd := td.len
    rw [tds_len] at ltd
    have rl : (rows.map sV).length = rows.length := List.length_map ..
    refine ⟨_, rfl, _, _, rfl, .inr (SqT.of (s05 _ _ hpg)), _, rfl, by omega, by omega, ?_⟩
    rw [show ((rows.map sV).length : Int).toNat = rows.length by omega]
    refine for_range (lo := 0) (n := rows.length) (fun i σ H' => ∃ (hv : Bool) (y10 y11 y12 y13 y14 : Option V), σ = [some (.ref pg), some (.int (e : Int)), some (.str (sOf (pageB rows e m))), some (.ref ar), some (.ref tp), some (.str (sOf (x.map Prod.fst))), some (.ref D2), some (.ref pe), some (.ref ph), some (.bl hv), y10, y11, y12, y13, y14] ∧ Same H5 H' ∧ (hv = true → ∃ k', i = k' + 1 ∧ Cm rows e m n x F k')) ⟨false, _, _, _, _, _, rfl, Same.refl _, fun z => nomatch z⟩ ?_ ?_
    · rintro k σ H6 hk ⟨hv, y10, y11, y12, y13, y14, rfl, s6, hcm⟩
      obtain ⟨p1, p2, p3⟩ := ends_page (e := e) (m := m) hg n8 n64 hk
      have lE : (endsL (pageB rows e m)).getD (k + 1) 0 ≤ (pageB rows e m).length := (str_at p1).2.1
      refine ⟨_, rfl, _, rfl, _, rfl, _, _, _, _, rfl, rfl, SqL.of (s6 _ _ hpe5), (by rw [Int.zero_add]; exact atI_nat (ends_iV (by omega))), _, _, rfl, rfl, _, rfl, _, rfl, _, _, rfl, rfl, _, _, _, _, rfl, rfl, SqL.of (s6 _ _ hpe5), (by rw [show (0 : Int) + (k : Int) + 1 = ((k + 1 : Nat) : Int) by omega]; exact atI_nat (ends_iV p1)), ?_⟩
      refine ⟨D2, x.map Prod.snd, (endsL (pageB rows e m)).getD k 0 - 12, (endsL (pageB rows e m)).getD (k + 1) 0, _, _, rfl, ?_, rfl, s6 _ _ hpl5, by omega, by omega, by omega, (fun H7 s7 => ?_), fun i H7 s7 ci => ?_⟩
      · show (((endsL (pageB rows e m)).getD k 0 : Nat) : Int) - 12 = (((endsL (pageB rows e m)).getD k 0 - 12 : Nat) : Int)
        omega
      · refine ⟨fun σ H' => σ = [some (.ref pg), some (.int (e : Int)), some (.str (sOf (pageB rows e m))), some (.ref ar), some (.ref tp), some (.str (sOf (x.map Prod.fst))), some (.ref D2), some (.ref pe), some (.ref ph), some (.bl false), some (.int (0 + (k : Int))), some .non, y12, y13, y14] ∧ H7 = H', ?_, ?_⟩
        · exact ⟨_, rfl, rfl, _, rfl, iteN0 rfl ⟨rfl, rfl⟩⟩
        rintro σ _ ⟨rfl, rfl⟩
        refine ⟨_, rfl, _, rfl, iteF ?_⟩
        exact ⟨false, _, _, _, _, _, rfl, s6.trans s7, fun z => nomatch z⟩
      refine ⟨fun σ H' => ∃ hv2 : Bool, σ = [some (.ref pg), some (.int (e : Int)), some (.str (sOf (pageB rows e m))), some (.ref ar), some (.ref tp), some (.str (sOf (x.map Prod.fst))), some (.ref D2), some (.ref pe), some (.ref ph), some (.bl hv2), some (.int (0 + (k : Int))), some (.int (i : Int)), y12, y13, y14] ∧ H7 = H' ∧ (hv2 = true → k % e = 0 ∨ ∃ k', k = k' + 1 ∧ Cm rows e m n x F k'), ?_, ?_⟩
      · have em : (0 + (k : Int)) - (0 + (k : Int)) / (e : Int) * (e : Int) = ((k % e : Nat) : Int) := by
          have h1 := Int.emod_def (k : Int) (e : Int)
          have h2 : ((k % e : Nat) : Int) = (k : Int) % (e : Int) := by push_cast; rfl
          rw [h2, h1, Int.mul_comm, Int.zero_add]
        refine ⟨_, rfl, rfl, _, rfl, iteN1 (fun z => nomatch z) ?_⟩
        cases hv with
        | true =>
          refine ⟨_, rfl, _, rfl, iteT ?_⟩
          exact ⟨true, rfl, rfl, fun _ => .inr (hcm rfl)⟩
        | false =>
          refine ⟨_, rfl, _, rfl, iteF ?_⟩
          refine ⟨_, rfl, _, rfl, _, rfl, _, _, rfl, rfl, ⟨by omega, by omega⟩, _, rfl, _, _, rfl, rfl, .inr ⟨by omega, by omega⟩, _, _, rfl, rfl, rfl, ?_⟩
          refine ⟨_, rfl, rfl, fun z => .inl ?_⟩
          have z2 : (0 + (k : Int)) - (0 + (k : Int)) / (e : Int) * (e : Int) = 0 := V.int.inj (of_decide_eq_true z)
          rw [em] at z2
          omega
      rintro σ _ ⟨hv2, rfl, rfl, h2⟩
      refine ⟨_, rfl, _, rfl, ite2 (fun z => ?_) (fun z => ?_)⟩
      · obtain ⟨s, c1, tl, cm⟩ := cm_step hg n8 n64 hk ok sF ci (h2 z)
        have ls := (List.getElem?_eq_some_iff.mp c1).1
        have s67 := s6.trans s7
        have s07 := s05.trans s67
        refine ⟨_, rfl, .inl ⟨rfl, _, SqL.of (s67 _ _ hph5)⟩, _, rfl, _, _, rfl, rfl, ph, _, _, s, iV (i + 12), rfl, rfl, SqL.of (s67 _ _ hph5), rfl, ints_flat _, (by rw [List.getElem?_map, c1]; rfl), ?_, (fun m' z' hm hz => ?_), ?_⟩
        · exact (iV_eq (i + 12) (i + 12)).trans (decide_eq_true rfl)
        · rw [List.getElem?_map] at hz
          cases ey : (endsL (x.map Prod.fst))[m']? with
          | none =>
            rw [ey] at hz
            cases hz
          | some y =>
            rw [ey] at hz
            rw [← Option.some.inj hz]
            refine (iV_eq y (i + 12)).trans (decide_eq_false fun z => ?_)
            have := ends_uniq c1 (by rw [ey, z])
            omega
        have htp7 := s07 _ _ htp
        have htr7 := s07 _ _ htr
        have stay : ∀ H8 (y12 : Option V), Same H7 H8 → ∃ (hv : Bool) (z10 z11 z12 z13 z14 : Option V), [some (V.ref pg), some (.int (e : Int)), some (.str (sOf (pageB rows e m))), some (.ref ar), some (.ref tp), some (.str (sOf (x.map Prod.fst))), some (.ref D2), some (.ref pe), some (.ref ph), some (.bl hv2), some (.int (0 + (k : Int))), some (.int (i : Int)), y12, y13, y14] = [some (.ref pg), some (.int (e : Int)), some (.str (sOf (pageB rows e m))), some (.ref ar), some (.ref tp), some (.str (sOf (x.map Prod.fst))), some (.ref D2), some (.ref pe), some (.ref ph), some (.bl hv), z10, z11, z12, z13, z14] ∧ Same H5 H8 ∧ (hv = true → ∃ k', k + 1 = k' + 1 ∧ Cm rows e m n x F k') := fun H8 y12 s8 => ⟨hv2, _, _, _, _, _, rfl, s67.trans s8, fun _ => ⟨k, rfl, cm⟩⟩
        refine ⟨_, rfl, _, rfl, _, _, _, .ref tr, rfl, rfl, SqT.of htp7, atI_nat (j := 0) rfl, _, _, rfl, .inl (SqL.of htr7), _, _, rfl, rfl, _, rfl, ?_⟩
        by_cases lt : s < F.length
        · refine iteD1 (by omega) ?_
          have td7 := td.mono (H' := H7) fun a xs ha => s07 _ _ ha
          obtain ⟨t, ht1, ht2⟩ := td7.get (k := s) (x := (rows.getD k [], true)) (by
            unfold tdsL
            rw [List.getElem?_map, List.getElem?_range lt]
            exact congrArg some (tl lt))
          refine ⟨_, rfl, _, _, _, .ref tr, rfl, rfl, SqT.of htp7, atI_nat (j := 0) rfl, _, rfl, _, _, _, _, rfl, rfl, SqL.of htr7, atI_nat ht1, _, rfl, _, rfl, _, _, _, _, rfl, rfl, SqT.of (s07 _ _ hpg), (by rw [Int.zero_add]; exact atI_nat (good_at hg hk).1), (by show 2 ≤ sizeLine; decide), fun p8 hp8 => ?_⟩
          have D1 := tdP_ok (x := (rows.getD k [], true)) ⟨by rw [(good_at hg hk).2.1]; omega, (good_at hg hk).2.2⟩
          refine ⟨tdP (rows.getD k [], true), tdP (rows.getD k [], true), .tup (.inl (.inl (by rw [upd_ne (ne_of_none ht2 hp8)]; exact ht2))) (.cons (.str _) (.cons (.str _) .nil)), .tup (.inl (.inl upd_same)) (.cons (.str _) (.cons (.str _) .nil)), D1.shaped, D1.shaped, _, rfl, ?_⟩
          rw [D1.refl]
          exact stay _ _ (same_new hp8)
        · refine iteD0 (by omega) (iteF ?_)
          exact stay _ _ (Same.refl _)
      · exact ⟨hv2, _, _, _, _, _, rfl, s6.trans s7, fun y => absurd y z⟩
    · rintro σ H6 ⟨hv, y10, y11, y12, y13, y14, rfl, s6, hcm⟩
      exact q _ (s05.trans s6)
--SPLIT
theorem every_at {j : Int} (h0 : 0 ≤ j) (h1 : j < 3) : ∃ e : Nat, atI [V.int 1, .int 2, .int 4] j = some (.int (e : Int)) ∧ 1 ≤ e ∧ e ≤ 4 := by
  have : j = 0 ∨ j = 1 ∨ j = 2 := by omega
  rcases this with rfl | rfl | rfl
  · exact ⟨1, rfl, by decide, by decide⟩
  · exact ⟨2, rfl, by decide, by decide⟩
  · exact ⟨4, rfl, by decide, by decide⟩
theorem least_at {d j : Int} (d0 : 0 ≤ d) (d1 : d < 241) (h0 : 0 ≤ j) (h1 : j < 3) : ∃ e : Nat, atI [V.int 0, .int 240, .int d] j = some (.int (e : Int)) ∧ e ≤ 240 := by
  have : j = 0 ∨ j = 1 ∨ j = 2 := by omega
  obtain ⟨d, rfl⟩ := Int.eq_ofNat_of_zero_le d0
  rcases this with rfl | rfl | rfl
  · exact ⟨0, rfl, by decide⟩
  · exact ⟨240, rfl, by decide⟩
  · exact ⟨d, rfl, by omega⟩
theorem many_at {a b j : Int} (a0 : 0 ≤ a) (a1 : a < 5) (b0 : 0 ≤ b) (b1 : b < 41) (h0 : 0 ≤ j) (h1 : j < 5) : ∃ e : Int, atI [V.int 0, .int 1, .int (1 + a), .int b, .int 40] j = some (.int e) ∧ 0 ≤ e ∧ e ≤ 40 := by
  have : j = 0 ∨ j = 1 ∨ j = 2 ∨ j = 3 ∨ j = 4 := by omega
  rcases this with rfl | rfl | rfl | rfl | rfl
  · exact ⟨0, rfl, by decide, by decide⟩
  · exact ⟨1, rfl, by decide, by decide⟩
  · exact ⟨1 + a, rfl, by omega, by omega⟩
  · exact ⟨b, rfl, by omega, by omega⟩
  · exact ⟨40, rfl, by decide, by decide⟩
theorem page24 {n e m : Nat} {rows : List (List Nat)} (h : Good n rows) (n64 : n ≤ 64) (hm : m ≤ 240) (r : rows.length ≤ 24) : (pageB rows e m).length ≤ 94000 := by
  have := flat_le 3913 (pageR rows e m rows.length) (fun z hz => by
    obtain ⟨k, hk, rfl⟩ := List.mem_map.mp hz
    exact padB_len (rowB_len h (List.mem_range.mp hk) n64) hm)
  have l1 : (pageR rows e m rows.length).length = rows.length := by
    unfold pageR
    rw [List.length_map, List.length_range]
  rw [l1] at this
  unfold pageB
  rw [List.length_append, endB_len]
  omega
theorem strR_some (F : List (List Nat)) : ∃ F' b, StrR F F' b := by
  by_cases h : ∃ a, 1 ≤ a ∧ a < F.length ∧ E2 F a
  · obtain ⟨a, ⟨h1, h2, h3⟩, h4⟩ := least_nat (p := fun a => 1 ≤ a ∧ a < F.length ∧ E2 F a) h
    exact ⟨_, true, .inl ⟨rfl, a, h1, h2, h3, fun a' g1 g2 g3 => h4 a' g2 ⟨g1, by omega, g3⟩, rfl⟩⟩
  · exact ⟨F, false, .inr ⟨rfl, fun a h1 h2 h3 => h ⟨a, h1, h2, h3⟩, rfl⟩⟩
def spLaw (K : PySem.W.Frag) (p : Addr) : Sp := fun vs H Q _ => ∃ (a : Addr) (ns : List Int), vs = [.ref a] ∧ SqL K H a (ns.map V.int) ∧ ns.length ≤ 63 ∧ H p = some (.tbl #[]) ∧ ∀ H', Q (.bl true) H'
theorem ok_law {A : Ad} (T : Txt w K mg base A) : FnOk P w K mg base CX0 10 A.a_law A.d_law P_law (spLaw K A.p_making_order) := by
  have G_bag := ok_bag (P := P) (w := w) (base := base) T
  have G_page := ok_page (P := P) (w := w) (base := base) T
  have G_page_bits := ok_page_bits (P := P) (w := w) (base := base) T
  have G_followed := ok_followed (P := P) (w := w) (base := base) T
  have G_read_bits := ok_read_bits (P := P) (w := w) (base := base) T
  have G_draw := ok_draw (P := P) (w := w) (base := base) T
  have G_spoils := ok_spoils (P := P) (w := w) (base := base) T
  have G_good := ok_good (P := P) (w := w) (base := base) T
  refine T.F_law.ok sc_law (fun vs H Q E h => ?_) (fun cdv Ar outer s H vs Q E hr h => ?_)
  · obtain ⟨a, ns, rfl, _⟩ := h
    rfl
  · obtain ⟨a, ns, rfl, hS, ln, hP, q⟩ := h
    refine ⟨_, (pss_cons (ps_for PassesOwn.never rfl (pi_range1 (by rfl) T.z_range (pa_cons (pe_callB (call_max2 rfl) (by rfl) T.z_max (by decide +kernel) (pa_cons pe_int (pa_cons (pe_callB (call_min2 rfl) (by rfl) T.z_min (by decide +kernel) (pa_cons pe_int (pa_cons (pe_callB (r := fun xs H Q => ∃ p ys, xs = [.ref p] ∧ (SqL K H p ys ∨ SqT K H p ys) ∧ Q (.int ys.length) H) call_len_seq (by rfl) T.z_len PySem.boot_len (pa_cons (pv 0) pa_nil)) pa_nil))) pa_nil))) pa_nil)) (pg_name (i := 1) sc_law.nd rfl (Or.inl rfl))
      (pss_cons (ps_set (i := 2) sc_law.nd rfl (Or.inl rfl) (pe_call G_bag (hr.mono (by decide)) (by rfl) T.g_bag T.F_bag.kp T.b_bag .nil pass0 (pa_cons (pv 0) (pa_cons (pv 1) pa_nil))))
      (pss_cons (ps_set (i := 3) sc_law.nd rfl (Or.inl rfl) (pe_call G_page (hr.mono (by decide)) (by rfl) T.g_page T.F_page.kp T.b_page .nil pass0 (pa_cons (pv 2) (pa_cons pe_int (pa_cons pe_int pa_nil)))))
      (pss_cons (ps_set (i := 4) sc_law.nd rfl (Or.inl rfl) (pe_ix (r := rIxL K) ix_list (pe_lstW (pa_cons pe_int (pa_cons pe_int (pa_cons pe_int pa_nil)))) (pe_call G_draw (hr.mono (by decide)) (by rfl) T.g_draw T.F_draw.kp T.b_draw .nil pass0 (pa_cons (pv 2) (pa_cons pe_int pa_nil))) (fun _ _ => rfl)))
      (pss_cons (ps_set (i := 5) sc_law.nd rfl (Or.inl rfl) (pe_call G_page_bits (hr.mono (by decide)) (by rfl) T.g_page_bits T.F_page_bits.kp T.b_page_bits .nil pass0 (pa_cons (pv 3) (pa_cons (pv 4) (pa_cons (pe_ix (r := rIxL K) ix_list (pe_lstW (pa_cons pe_int (pa_cons pe_int (pa_cons (pe_call G_draw (hr.mono (by decide)) (by rfl) T.g_draw T.F_draw.kp T.b_draw .nil pass0 (pa_cons (pv 2) (pa_cons pe_int pa_nil))) pa_nil)))) (pe_call G_draw (hr.mono (by decide)) (by rfl) T.g_draw T.F_draw.kp T.b_draw .nil pass0 (pa_cons (pv 2) (pa_cons pe_int pa_nil))) (fun _ _ => rfl)) pa_nil)))))
      (pss_cons (ps_set (i := 6) sc_law.nd rfl (Or.inl rfl) (pe_ix (r := rIxL K) ix_list (pe_lstW (pa_cons pe_int (pa_cons pe_int (pa_cons (pe_op op_add pe_int (pe_call G_draw (hr.mono (by decide)) (by rfl) T.g_draw T.F_draw.kp T.b_draw .nil pass0 (pa_cons (pv 2) (pa_cons pe_int pa_nil)))) (pa_cons (pe_call G_draw (hr.mono (by decide)) (by rfl) T.g_draw T.F_draw.kp T.b_draw .nil pass0 (pa_cons (pv 2) (pa_cons pe_int pa_nil))) (pa_cons pe_int pa_nil)))))) (pe_call G_draw (hr.mono (by decide)) (by rfl) T.g_draw T.F_draw.kp T.b_draw .nil pass0 (pa_cons (pv 2) (pa_cons pe_int pa_nil))) (fun _ _ => rfl)))
      (pss_cons (ps_set (i := 7) sc_law.nd rfl (Or.inl rfl) (pe_call G_followed (hr.mono (by decide)) (by rfl) T.g_followed T.F_followed.kp T.b_followed .nil pass0 (pa_cons (pv 5) (pa_cons (pe_call G_spoils (hr.mono (by decide)) (by rfl) T.g_spoils T.F_spoils.kp T.b_spoils .nil pass0 (pa_cons (pv 2) (pa_cons (pv 6) (pa_cons (pe_callB call_len_str (by rfl) T.z_len PySem.boot_len (pa_cons (pv 5) pa_nil)) pa_nil)))) pa_nil))))
      (pss_cons (ps_set (i := 8) sc_law.nd rfl (Or.inl rfl) (pe_call G_read_bits (hr.mono (by decide)) (by rfl) T.g_read_bits T.F_read_bits.kp T.b_read_bits .nil pass0 (pa_cons (pe_callB call_len_str (by rfl) T.z_len PySem.boot_len (pa_cons (pe_ix (r := rIxT K) ix_tup (pv 3) pe_int (fun _ _ => rfl)) pa_nil)) (pa_cons (pe_join pe_str (pe_lc (own := [("_law_bit", 9), ("_law_place", 10)]) (g := gTup K 2 (gCons (gName 9) (gCons (gName 10) gNil))) (tt := tYes) (by rfl) sc_law.nd (pi_list (pv 7)) (blkOk_by (own := [("_law_bit", 9), ("_law_place", 10)]) (N := N_law) (sc := defScope s_law) (by decide +kernel)) (fun _ _ _ _ _ => pg_tup (by rfl) (pgs_cons (pg_name (i := 9) sc_law.nd rfl (Or.inl rfl)) (pgs_cons (pg_name (i := 10) sc_law.nd rfl (Or.inl rfl)) pgs_nil))) (fun _ _ _ _ _ => pts_nil) (fun _ _ _ _ _ => (pv 9)))) pa_nil))))
      (pss_one (ps_if (pt_not (pt_val (pe_call G_good (hr.mono (by decide)) (by rfl) T.g_good T.F_good.kp T.b_good .nil pass0 (pa_cons (pv 3) (pa_cons (pv 4) (pa_cons (pv 5) (pa_cons (pv 7) (pa_cons (pv 8) pa_nil))))))))
      (pss_one (ps_ret pe_bl)) pss_nil))))))))))
      (pss_one (ps_ret pe_bl))), ?_⟩
    have T1 : LamX.Tabs (TT A.p_making_order) H := fun z hz => by
      rw [List.mem_singleton.mp hz]
      exact LamX.TabS.nil hP
    refine ⟨_, rfl, _, _, rfl, .inl hS, _, _, rfl, _, _, rfl, _, rfl, ?_, ?_, for_range (fun i σ H' => ∃ y1 y2 y3 y4 y5 y6 y7 y8 y9 y10, σ = [some (.ref a), y1, y2, y3, y4, y5, y6, y7, y8, y9, y10] ∧ LamX.ExtN H H' ∧ LamX.Tabs (TT A.p_making_order) H') ⟨none, none, none, none, none, none, none, none, none, none, rfl, LamX.ExtN.refl _, T1⟩ ?_ ?_⟩
    · rw [List.length_map]
      split <;> split <;> omega
    · rw [List.length_map]
      split <;> split <;> omega
    · rintro i σ H2 hi ⟨y1, y2, y3, y4, y5, y6, y7, y8, y9, y10, rfl, e2, T2⟩
      have hi8 : i < 8 := by
        rw [List.length_map] at hi
        revert hi
        split <;> split <;> omega
      refine ⟨_, rfl, _, rfl, a, ns, _, rfl, extN_seq e2 hS, by omega, by omega, fun b g s hb g0 s0 s1 => ?_⟩
      have B0 := BxN.new hb g0 s0 s1 T2
      refine ⟨_, rfl, b, 48, 24, rfl, B0.1, by decide, by decide, by decide, by decide, fun pg rows n H3 n8 n48 r1 r24 hg npg hpg bx => ?_⟩
      have n64 : n ≤ 64 := by omega
      have B1 := B0.bx bx
      have nb : pg ≠ b := bx.1.tup hpg
      refine ⟨by show 3 ≤ 100000; decide, fun q1 G1 nq1 st1 hq1 => ⟨_, rfl, b, 3, rfl, (B1.same st1).1, by decide, by decide, fun j G2 j0 j1 bx2 => ?_⟩⟩
      obtain ⟨e, he, e1, e4⟩ := every_at j0 j1
      have nq : q1 ≠ b := BagAt.ne bx.1 nq1
      refine ⟨_, _, _, _, rfl, rfl, SqL.of (bx2.2 _ _ nq hq1), he, ?_⟩
      have B2 := (B1.same st1).bx bx2
      have hpg2 := bx2.2 _ _ nb (st1 _ _ hpg)
      refine ⟨_, rfl, _, rfl, _, rfl, b, 241, rfl, B2.1, by decide, by decide, fun d1 G3 a0 a1 bx3 => ⟨by show 3 ≤ 100000; decide, fun q2 G4 nq2 st4 hq2 => ⟨_, rfl, b, 3, rfl, ((B2.bx bx3).same st4).1, by decide, by decide, fun j2 G5 j20 j21 bx5 => ?_⟩⟩⟩
      obtain ⟨m, hm1, m240⟩ := least_at a0 a1 j20 j21
      have nq2 : q2 ≠ b := BagAt.ne bx3.1 nq2
      have B5 := ((B2.bx bx3).same st4).bx bx5
      have hpg5 := bx5.2 _ _ nb (st4 _ _ (bx3.2 _ _ nb hpg2))
      refine ⟨_, _, _, _, rfl, rfl, SqL.of (bx5.2 _ _ nq2 hq2), hm1, pg, rows, n, e, m, _, _, rfl, rfl, rfl, hpg5, hg, n8, n64, r24, e1, by omega, m240, B5.2.1, fun G6 eN6 T6 => ?_⟩
      have B6 := B5.ext eN6 T6
      have hpg6 : G6 pg = some (.tup (rows.map sV)) := eN6 _ _ hpg5 (fun ps z => by cases z)
      have lP := page24 (e := e) hg n64 m240 r24
      -- how many spoils
      refine ⟨_, rfl, b, 5, rfl, B6.1, by decide, by decide, fun a1 G7 a10 a11 bx7 => ⟨_, _, rfl, rfl, _, rfl, b, 41, rfl, (B6.bx bx7).1, by decide, by decide, fun a2 G8 a20 a21 bx8 => ⟨by show 5 ≤ 100000; decide, fun q3 G9 nq3 st9 hq3 => ⟨_, rfl, b, 5, rfl, (((B6.bx bx7).bx bx8).same st9).1, by decide, by decide, fun j3 G10 j30 j31 bx10 => ?_⟩⟩⟩⟩
      obtain ⟨mm, hmm, mm0, mm1⟩ := many_at a10 a11 a20 a21 j30 j31
      have nq3 : q3 ≠ b := BagAt.ne bx8.1 nq3
      have B10 := (((B6.bx bx7).bx bx8).same st9).bx bx10
      have hpg10 : G10 pg = some (.tup (rows.map sV)) := bx10.2 _ _ nb (st9 _ _ (bx8.2 _ _ nb (bx7.2 _ _ nb hpg6)))
      refine ⟨_, _, _, _, rfl, rfl, SqL.of (bx10.2 _ _ nq3 hq3), hmm, ?_⟩
      have hzP : (sOf (pageB rows e m)).length ≤ sizeLine := by
        rw [sOf_len]
        exact sz (by omega)
      -- the spoils, and the bits followed
      refine ⟨_, rfl, _, rfl, _, rfl, _, rfl, _, rfl, hzP, b, mm, _, rfl, B10.1, mm0, by omega, by omega, (by rw [sOf_len]; omega), fun sp ws sps G11 nsp bx11 hsp hss lss gss => ?_⟩
      have B11 := B10.bx bx11
      have hpg11 := bx11.2 _ _ nb hpg10
      refine ⟨pageB rows e m, sp, ws, sps, rfl, hsp, hss, pageB_bts rows e m, (fun s hs => (gss s hs).2), by omega, by omega, fun ar avs x G12 nar s12 har ta ok bx lx => ?_⟩
      have B12 := B11.same s12
      have hpg12 := s12 _ _ hpg11
      have lav := ta.len
      have lB : (x.map Prod.fst).length = x.length := List.length_map ..
      have gr0 := good_at hg (show 0 < rows.length by omega)
      have z0 : (sOf (rows.getD 0 [])).length ≤ sizeLine := by
        rw [sOf_len]
        exact sz (by omega)
      have row0 : atI (rows.map sV) (0 : Int) = some (.str (sOf (rows.getD 0 []))) := atI_nat (j := 0) gr0.1
      -- read
      refine ⟨_, rfl, _, _, _, _, rfl, rfl, SqT.of hpg12, row0, _, rfl, z0, ⟨_, rfl⟩, _, rfl, ar, rfl, ⟨_, SqL.of har⟩, fun D hD => lc_list (K := K) (a := ar) (xs := avs) (fun i H' => Same G12 H' ∧ H' D = some (.lst (cells ((x.map Prod.fst).take i)))) ⟨same_new hD, upd_same⟩ (fun i H' _ hh => SqL.of (hh.1 _ _ har)) ?_ ?_⟩
      · rintro k v I1 hv ⟨sm, hD1⟩
        obtain ⟨t, y, hy, rfl, ht⟩ := ta.getV hv
        have hk := (List.getElem?_eq_some_iff.mp hy).1
        refine ⟨t, _, rfl, SqT.of (sm _ _ ht), rfl, _, _, rfl, _, _, rfl, rfl, rfl, _, rfl, _, hD1, ?_, Same.mut sm hD, ?_⟩
        · rw [cells_len, List.length_take]
          exact szl (by omega)
        · rw [upd_same, take_more _ k y.1 (by rw [List.getElem?_map, hy]; rfl), ← cells_app]
      rintro G13 ⟨s13, hD1⟩
      rw [show avs.length = (x.map Prod.fst).length by omega, List.take_length] at hD1
      refine ⟨_, _, (x.map Prod.fst).map fun c => sOf [c], rfl, rfl, .inl (SqL.of (by rw [← cells_strs]; exact hD1)), join_size (by omega), ?_⟩
      rw [join_cells]
      have B13 := B12.same s13
      obtain ⟨F, bb, sF⟩ := strR_some (sttL (x.map Prod.fst))
      refine ⟨n, x.map Prod.fst, F, bb, _, rfl, (by rw [sOf_len, gr0.2.1]), n64, bx.bts, by omega, sF, B13.2.1, fun tp tr ts G14 ntr e14 T14 htp htr td => ?_⟩
      have hpg14 : G14 pg = some (.tup (rows.map sV)) := e14 _ _ (s13 _ _ hpg12) (fun ps z => by cases z)
      have har14 : G14 ar = some (.lst avs) := e14 _ _ (s13 _ _ har) (fun ps z => by cases z)
      have ta14 : TpsAt arV G14 avs x := TpsAt.mono (fun c xs hc => e14 _ _ (s13 _ _ hc) (fun ps z => by cases z)) ta
      refine ⟨_, rfl, _, rfl, _, rfl, _, rfl, _, rfl, pg, ar, tp, tr, rows, n, e, m, avs, ts, x, F, bb, _, rfl, rfl, hpg14, hg, n8, n64, r24, e1, e4, by omega, har14, ta14, ok, bx, by omega, htp, htr, td, sF, fun G15 s15 => ⟨_, rfl, ?_⟩⟩
      exact ⟨_, _, _, _, _, _, _, _, _, _, rfl, e2.trans (((B13.back hb).trans e14).trans (extN_of s15)), tabs_same T14 s15⟩
    · rintro σ H2 ⟨y1, y2, y3, y4, y5, y6, y7, y8, y9, y10, rfl, e2, T2⟩
      exact q _
end
--SPLIT
theorem all_mk {l : PySem.W.OpenLaw} {w : World} {K : PySem.W.Frag} {h : Heap} {mg : Str → Option Value} {fa : Addr} (X : K.In h) (G : h.Ns mainGlobals mg) (hfa : mg "law" = some (.ref fa))
    {f0 f1 f2 f3 f4 f5 f6 f7 f8 f9 f10 f11 f12 f13 f14 f15 f16 f17 f18 f19 f20 f21 f22 f23 f24 f25 f26 f27 f28 f29 f30 f31 f32 f33 f34 f35 f36 f37 f38 f39 f40 f41 f42 f43 : Addr}
    {x_NoTelling : Addr}
    {od0 an0 od1 an1 od2 an2 od3 an3 od4 an4 od5 an5 od6 an6 od7 an7 od8 an8 od9 an9 od10 an10 od11 an11 od12 an12 od13 an13 od14 an14 od15 an15 od16 an16 od17 an17 od18 an18 od19 an19 od20 an20 od21 an21 od22 an22 od23 an23 od24 an24 od25 an25 od26 an26 od27 an27 od28 an28 od29 an29 od30 an30 od31 an31 od32 an32 od33 an33 od34 an34 od35 an35 od36 an36 od37 an37 od38 an38 od39 an39 od40 an40 od41 an41 od42 an42 od43 an43 : Option Addr}
    {sl0 sl1 sl2 sl3 sl4 sl5 sl6 sl7 sl8 sl9 sl10 sl11 sl12 sl13 sl14 sl15 sl16 sl17 sl18 sl19 sl20 sl21 sl22 sl23 sl24 sl25 sl26 sl27 sl28 sl29 sl30 sl31 sl32 sl33 sl34 sl35 sl36 sl37 sl38 sl39 sl40 sl41 sl42 sl43 : Array (Option Value)}
    {oc0 kV0 dc0 pm0 ct0 cd0 oc1 kV1 dc1 pm1 ct1 cd1 oc2 kV2 dc2 pm2 ct2 cd2 oc3 kV3 dc3 pm3 ct3 cd3 oc4 kV4 dc4 pm4 ct4 cd4 oc5 kV5 dc5 pm5 ct5 oc6 kV6 dc6 pm6 ct6 cd6 oc7 kV7 dc7 pm7 ct7 cd7 oc8 kV8 dc8 pm8 ct8 cd8 oc9 kV9 dc9 pm9 ct9 cd9 oc10 kV10 dc10 pm10 ct10 cd10 oc11 kV11 dc11 pm11 ct11 cd11 oc12 kV12 dc12 pm12 ct12 cd12 oc13 kV13 dc13 pm13 ct13 cd13 oc14 kV14 dc14 pm14 ct14 cd14 oc15 kV15 dc15 pm15 ct15 cd15 oc16 kV16 dc16 pm16 ct16 cd16 oc17 kV17 dc17 pm17 ct17 cd17 oc18 kV18 dc18 pm18 ct18 cd18 oc19 kV19 dc19 pm19 ct19 cd19 oc20 kV20 dc20 pm20 ct20 cd20 oc21 kV21 dc21 pm21 ct21 cd21 oc22 kV22 dc22 pm22 ct22 cd22 oc23 kV23 dc23 pm23 ct23 cd23 oc24 kV24 dc24 pm24 ct24 cd24 oc25 kV25 dc25 pm25 ct25 cd25 oc26 kV26 dc26 pm26 ct26 cd26 oc27 kV27 dc27 pm27 ct27 cd27 oc28 kV28 dc28 pm28 ct28 cd28 oc29 kV29 dc29 pm29 ct29 cd29 oc30 kV30 dc30 pm30 ct30 cd30 oc31 kV31 dc31 pm31 ct31 cd31 oc32 kV32 dc32 pm32 ct32 cd32 oc33 kV33 dc33 pm33 ct33 cd33 oc34 kV34 dc34 pm34 ct34 cd34 oc35 kV35 dc35 pm35 ct35 cd35 oc36 kV36 dc36 pm36 ct36 cd36 oc37 kV37 dc37 pm37 ct37 cd37 oc38 kV38 dc38 pm38 ct38 cd38 oc39 kV39 dc39 pm39 ct39 cd39 oc40 kV40 dc40 pm40 ct40 cd40 oc41 kV41 dc41 pm41 ct41 cd41 oc42 kV42 dc42 pm42 ct42 cd42 oc43 kV43 dc43 pm43 ct43 cd43 : Value}
    {t_ABOVE_TAG : Tok}
    {t_AHEAD : Tok}
    {t_DARK : Tok}
    {t_ENDS : Tok}
    {t_END_MARKS : Tok}
    {t_GUESSED : Tok}
    {t_LENGTHS_above : Addr}
    {t_LENGTHS_words : Addr}
    {t_LIGHT : Tok}
    {t_MAKERS : Tok}
    {t_MARK : Tok}
    {t_MOST_NEAR : Tok}
    {t_PLAIN_TAG : Tok}
    {t_READ : Tok}
    {t_STEPS : Addr}
    {k_making_order p_making_order : Addr}
    {es_LENGTHS_words : Array DictEntry} {en_LENGTHS_words : Nat}
    {u_LENGTHS_words_0 : Addr} {dd_LENGTHS_words_0 : Option Addr} {us_LENGTHS_words_0 : List Value} {un_LENGTHS_words_0 : Nat} {ul_LENGTHS_words_0 : Array (Option Value)}
    {u_LENGTHS_words_1 : Addr} {dd_LENGTHS_words_1 : Option Addr} {us_LENGTHS_words_1 : List Value} {un_LENGTHS_words_1 : Nat} {ul_LENGTHS_words_1 : Array (Option Value)}
    (a0 : PySem.W.nsIn K mainGlobals "is_bits" = some (some (.ref f0))) (l0 : K.lookup f0 = some ⟨oc0, od0, .func (PySem.W.fnOf "is_bits" "is_bits" (defArgs s_is_bits) (defBody s_is_bits) (defScope s_is_bits) .none kV0 dc0 pm0 an0 cd0 ct0), sl0⟩) (c0 : PySem.W.codeIn K cd0 "is_bits" = true) (k0 : PySem.W.keepIn K (.ref f0) = true)
    (a1 : PySem.W.nsIn K mainGlobals "first_place" = some (some (.ref f1))) (l1 : K.lookup f1 = some ⟨oc1, od1, .func (PySem.W.fnOf "first_place" "first_place" (defArgs s_first_place) (defBody s_first_place) (defScope s_first_place) .none kV1 dc1 pm1 an1 cd1 ct1), sl1⟩) (c1 : PySem.W.codeIn K cd1 "first_place" = true) (k1 : PySem.W.keepIn K (.ref f1) = true)
    (a2 : PySem.W.nsIn K mainGlobals "places_of" = some (some (.ref f2))) (l2 : K.lookup f2 = some ⟨oc2, od2, .func (PySem.W.fnOf "places_of" "places_of" (defArgs s_places_of) (defBody s_places_of) (defScope s_places_of) .none kV2 dc2 pm2 an2 cd2 ct2), sl2⟩) (c2 : PySem.W.codeIn K cd2 "places_of" = true) (k2 : PySem.W.keepIn K (.ref f2) = true)
    (a3 : PySem.W.nsIn K mainGlobals "other_cell" = some (some (.ref f3))) (l3 : K.lookup f3 = some ⟨oc3, od3, .func (PySem.W.fnOf "other_cell" "other_cell" (defArgs s_other_cell) (defBody s_other_cell) (defScope s_other_cell) .none kV3 dc3 pm3 an3 cd3 ct3), sl3⟩) (c3 : PySem.W.codeIn K cd3 "other_cell" = true) (k3 : PySem.W.keepIn K (.ref f3) = true)
    (a4 : PySem.W.nsIn K mainGlobals "words_by" = some (some (.ref f4))) (l4 : K.lookup f4 = some ⟨oc4, od4, .func (PySem.W.fnOf "words_by" "words_by" (defArgs s_words_by) (defBody s_words_by) (defScope s_words_by) .none kV4 dc4 pm4 an4 cd4 ct4), sl4⟩) (c4 : PySem.W.codeIn K cd4 "words_by" = true) (k4 : PySem.W.keepIn K (.ref f4) = true)
    (a5 : PySem.W.nsIn K mainGlobals "making_order" = some (some (.ref f5))) (l5 : K.lookup f5 = some ⟨oc5, od5, .func (PySem.W.fnOf "making_order" "making_order" (defArgs s_making_order) (defBody s_making_order) (defScope s_making_order) .none kV5 dc5 pm5 an5 (.ref k_making_order) ct5), sl5⟩) (c5 : PySem.W.codeIn K (.ref k_making_order) "making_order" = true) (k5 : PySem.W.keepIn K (.ref f5) = true)
    (hT_making_order : h.get? p_making_order = some (PySem.W.tabObj #[])) (hd_making_order : PySem.W.codeHdIn K k_making_order p_making_order = true) (nT_making_order : K.lookup p_making_order = none)
    (a6 : PySem.W.nsIn K mainGlobals "one_less" = some (some (.ref f6))) (l6 : K.lookup f6 = some ⟨oc6, od6, .func (PySem.W.fnOf "one_less" "one_less" (defArgs s_one_less) (defBody s_one_less) (defScope s_one_less) .none kV6 dc6 pm6 an6 cd6 ct6), sl6⟩) (c6 : PySem.W.codeIn K cd6 "one_less" = true) (k6 : PySem.W.keepIn K (.ref f6) = true)
    (a7 : PySem.W.nsIn K mainGlobals "colour_words" = some (some (.ref f7))) (l7 : K.lookup f7 = some ⟨oc7, od7, .func (PySem.W.fnOf "colour_words" "colour_words" (defArgs s_colour_words) (defBody s_colour_words) (defScope s_colour_words) .none kV7 dc7 pm7 an7 cd7 ct7), sl7⟩) (c7 : PySem.W.codeIn K cd7 "colour_words" = true) (k7 : PySem.W.keepIn K (.ref f7) = true)
    (a8 : PySem.W.nsIn K mainGlobals "run_by" = some (some (.ref f8))) (l8 : K.lookup f8 = some ⟨oc8, od8, .func (PySem.W.fnOf "run_by" "run_by" (defArgs s_run_by) (defBody s_run_by) (defScope s_run_by) .none kV8 dc8 pm8 an8 cd8 ct8), sl8⟩) (c8 : PySem.W.codeIn K cd8 "run_by" = true) (k8 : PySem.W.keepIn K (.ref f8) = true)
    (a9 : PySem.W.nsIn K mainGlobals "runs_of" = some (some (.ref f9))) (l9 : K.lookup f9 = some ⟨oc9, od9, .func (PySem.W.fnOf "runs_of" "runs_of" (defArgs s_runs_of) (defBody s_runs_of) (defScope s_runs_of) .none kV9 dc9 pm9 an9 cd9 ct9), sl9⟩) (c9 : PySem.W.codeIn K cd9 "runs_of" = true) (k9 : PySem.W.keepIn K (.ref f9) = true)
    (a10 : PySem.W.nsIn K mainGlobals "plain_bits" = some (some (.ref f10))) (l10 : K.lookup f10 = some ⟨oc10, od10, .func (PySem.W.fnOf "plain_bits" "plain_bits" (defArgs s_plain_bits) (defBody s_plain_bits) (defScope s_plain_bits) .none kV10 dc10 pm10 an10 cd10 ct10), sl10⟩) (c10 : PySem.W.codeIn K cd10 "plain_bits" = true) (k10 : PySem.W.keepIn K (.ref f10) = true)
    (a11 : PySem.W.nsIn K mainGlobals "run_tables" = some (some (.ref f11))) (l11 : K.lookup f11 = some ⟨oc11, od11, .func (PySem.W.fnOf "run_tables" "run_tables" (defArgs s_run_tables) (defBody s_run_tables) (defScope s_run_tables) .none kV11 dc11 pm11 an11 cd11 ct11), sl11⟩) (c11 : PySem.W.codeIn K cd11 "run_tables" = true) (k11 : PySem.W.keepIn K (.ref f11) = true)
    (a12 : PySem.W.nsIn K mainGlobals "run_table" = some (some (.ref f12))) (l12 : K.lookup f12 = some ⟨oc12, od12, .func (PySem.W.fnOf "run_table" "run_table" (defArgs s_run_table) (defBody s_run_table) (defScope s_run_table) .none kV12 dc12 pm12 an12 cd12 ct12), sl12⟩) (c12 : PySem.W.codeIn K cd12 "run_table" = true) (k12 : PySem.W.keepIn K (.ref f12) = true)
    (a13 : PySem.W.nsIn K mainGlobals "read_by" = some (some (.ref f13))) (l13 : K.lookup f13 = some ⟨oc13, od13, .func (PySem.W.fnOf "read_by" "read_by" (defArgs s_read_by) (defBody s_read_by) (defScope s_read_by) .none kV13 dc13 pm13 an13 cd13 ct13), sl13⟩) (c13 : PySem.W.codeIn K cd13 "read_by" = true) (k13 : PySem.W.keepIn K (.ref f13) = true)
    (a14 : PySem.W.nsIn K mainGlobals "read_plain" = some (some (.ref f14))) (l14 : K.lookup f14 = some ⟨oc14, od14, .func (PySem.W.fnOf "read_plain" "read_plain" (defArgs s_read_plain) (defBody s_read_plain) (defScope s_read_plain) .none kV14 dc14 pm14 an14 cd14 ct14), sl14⟩) (c14 : PySem.W.codeIn K cd14 "read_plain" = true) (k14 : PySem.W.keepIn K (.ref f14) = true)
    (a15 : PySem.W.nsIn K mainGlobals "above_steps" = some (some (.ref f15))) (l15 : K.lookup f15 = some ⟨oc15, od15, .func (PySem.W.fnOf "above_steps" "above_steps" (defArgs s_above_steps) (defBody s_above_steps) (defScope s_above_steps) .none kV15 dc15 pm15 an15 cd15 ct15), sl15⟩) (c15 : PySem.W.codeIn K cd15 "above_steps" = true) (k15 : PySem.W.keepIn K (.ref f15) = true)
    (a16 : PySem.W.nsIn K mainGlobals "step_at" = some (some (.ref f16))) (l16 : K.lookup f16 = some ⟨oc16, od16, .func (PySem.W.fnOf "step_at" "step_at" (defArgs s_step_at) (defBody s_step_at) (defScope s_step_at) .none kV16 dc16 pm16 an16 cd16 ct16), sl16⟩) (c16 : PySem.W.codeIn K cd16 "step_at" = true) (k16 : PySem.W.keepIn K (.ref f16) = true)
    (a17 : PySem.W.nsIn K mainGlobals "first_change" = some (some (.ref f17))) (l17 : K.lookup f17 = some ⟨oc17, od17, .func (PySem.W.fnOf "first_change" "first_change" (defArgs s_first_change) (defBody s_first_change) (defScope s_first_change) .none kV17 dc17 pm17 an17 cd17 ct17), sl17⟩) (c17 : PySem.W.codeIn K cd17 "first_change" = true) (k17 : PySem.W.keepIn K (.ref f17) = true)
    (a18 : PySem.W.nsIn K mainGlobals "led_to" = some (some (.ref f18))) (l18 : K.lookup f18 = some ⟨oc18, od18, .func (PySem.W.fnOf "led_to" "led_to" (defArgs s_led_to) (defBody s_led_to) (defScope s_led_to) .none kV18 dc18 pm18 an18 cd18 ct18), sl18⟩) (c18 : PySem.W.codeIn K cd18 "led_to" = true) (k18 : PySem.W.keepIn K (.ref f18) = true)
    (a19 : PySem.W.nsIn K mainGlobals "colour_behind" = some (some (.ref f19))) (l19 : K.lookup f19 = some ⟨oc19, od19, .func (PySem.W.fnOf "colour_behind" "colour_behind" (defArgs s_colour_behind) (defBody s_colour_behind) (defScope s_colour_behind) .none kV19 dc19 pm19 an19 cd19 ct19), sl19⟩) (c19 : PySem.W.codeIn K cd19 "colour_behind" = true) (k19 : PySem.W.keepIn K (.ref f19) = true)
    (a20 : PySem.W.nsIn K mainGlobals "above_bits" = some (some (.ref f20))) (l20 : K.lookup f20 = some ⟨oc20, od20, .func (PySem.W.fnOf "above_bits" "above_bits" (defArgs s_above_bits) (defBody s_above_bits) (defScope s_above_bits) .none kV20 dc20 pm20 an20 cd20 ct20), sl20⟩) (c20 : PySem.W.codeIn K cd20 "above_bits" = true) (k20 : PySem.W.keepIn K (.ref f20) = true)
    (a21 : PySem.W.nsIn K mainGlobals "step_bits" = some (some (.ref f21))) (l21 : K.lookup f21 = some ⟨oc21, od21, .func (PySem.W.fnOf "step_bits" "step_bits" (defArgs s_step_bits) (defBody s_step_bits) (defScope s_step_bits) .none kV21 dc21 pm21 an21 cd21 ct21), sl21⟩) (c21 : PySem.W.codeIn K cd21 "step_bits" = true) (k21 : PySem.W.keepIn K (.ref f21) = true)
    (a22 : PySem.W.nsIn K mainGlobals "read_above" = some (some (.ref f22))) (l22 : K.lookup f22 = some ⟨oc22, od22, .func (PySem.W.fnOf "read_above" "read_above" (defArgs s_read_above) (defBody s_read_above) (defScope s_read_above) .none kV22 dc22 pm22 an22 cd22 ct22), sl22⟩) (c22 : PySem.W.codeIn K cd22 "read_above" = true) (k22 : PySem.W.keepIn K (.ref f22) = true)
    (a23 : PySem.W.nsIn K mainGlobals "read_step" = some (some (.ref f23))) (l23 : K.lookup f23 = some ⟨oc23, od23, .func (PySem.W.fnOf "read_step" "read_step" (defArgs s_read_step) (defBody s_read_step) (defScope s_read_step) .none kV23 dc23 pm23 an23 cd23 ct23), sl23⟩) (c23 : PySem.W.codeIn K cd23 "read_step" = true) (k23 : PySem.W.keepIn K (.ref f23) = true)
    (a24 : PySem.W.nsIn K mainGlobals "row_behind" = some (some (.ref f24))) (l24 : K.lookup f24 = some ⟨oc24, od24, .func (PySem.W.fnOf "row_behind" "row_behind" (defArgs s_row_behind) (defBody s_row_behind) (defScope s_row_behind) .none kV24 dc24 pm24 an24 cd24 ct24), sl24⟩) (c24 : PySem.W.codeIn K cd24 "row_behind" = true) (k24 : PySem.W.keepIn K (.ref f24) = true)
    (a25 : PySem.W.nsIn K mainGlobals "page_bits" = some (some (.ref f25))) (l25 : K.lookup f25 = some ⟨oc25, od25, .func (PySem.W.fnOf "page_bits" "page_bits" (defArgs s_page_bits) (defBody s_page_bits) (defScope s_page_bits) .none kV25 dc25 pm25 an25 cd25 ct25), sl25⟩) (c25 : PySem.W.codeIn K cd25 "page_bits" = true) (k25 : PySem.W.keepIn K (.ref f25) = true)
    (a26 : PySem.W.nsIn K mainGlobals "row_bits" = some (some (.ref f26))) (l26 : K.lookup f26 = some ⟨oc26, od26, .func (PySem.W.fnOf "row_bits" "row_bits" (defArgs s_row_bits) (defBody s_row_bits) (defScope s_row_bits) .none kV26 dc26 pm26 an26 cd26 ct26), sl26⟩) (c26 : PySem.W.codeIn K cd26 "row_bits" = true) (k26 : PySem.W.keepIn K (.ref f26) = true)
    (a27 : PySem.W.nsIn K mainGlobals "mark_ends" = some (some (.ref f27))) (l27 : K.lookup f27 = some ⟨oc27, od27, .func (PySem.W.fnOf "mark_ends" "mark_ends" (defArgs s_mark_ends) (defBody s_mark_ends) (defScope s_mark_ends) .none kV27 dc27 pm27 an27 cd27 ct27), sl27⟩) (c27 : PySem.W.codeIn K cd27 "mark_ends" = true) (k27 : PySem.W.keepIn K (.ref f27) = true)
    (a28 : PySem.W.nsIn K mainGlobals "stretches" = some (some (.ref f28))) (l28 : K.lookup f28 = some ⟨oc28, od28, .func (PySem.W.fnOf "stretches" "stretches" (defArgs s_stretches) (defBody s_stretches) (defScope s_stretches) .none kV28 dc28 pm28 an28 cd28 ct28), sl28⟩) (c28 : PySem.W.codeIn K cd28 "stretches" = true) (k28 : PySem.W.keepIn K (.ref f28) = true)
    (a29 : PySem.W.nsIn K mainGlobals "is_empty" = some (some (.ref f29))) (l29 : K.lookup f29 = some ⟨oc29, od29, .func (PySem.W.fnOf "is_empty" "is_empty" (defArgs s_is_empty) (defBody s_is_empty) (defScope s_is_empty) .none kV29 dc29 pm29 an29 cd29 ct29), sl29⟩) (c29 : PySem.W.codeIn K cd29 "is_empty" = true) (k29 : PySem.W.keepIn K (.ref f29) = true)
    (a30 : PySem.W.nsIn K mainGlobals "read_bits" = some (some (.ref f30))) (l30 : K.lookup f30 = some ⟨oc30, od30, .func (PySem.W.fnOf "read_bits" "read_bits" (defArgs s_read_bits) (defBody s_read_bits) (defScope s_read_bits) .none kV30 dc30 pm30 an30 cd30 ct30), sl30⟩) (c30 : PySem.W.codeIn K cd30 "read_bits" = true) (k30 : PySem.W.keepIn K (.ref f30) = true)
    (a31 : PySem.W.nsIn K mainGlobals "told_row" = some (some (.ref f31))) (l31 : K.lookup f31 = some ⟨oc31, od31, .func (PySem.W.fnOf "told_row" "told_row" (defArgs s_told_row) (defBody s_told_row) (defScope s_told_row) .none kV31 dc31 pm31 an31 cd31 ct31), sl31⟩) (c31 : PySem.W.codeIn K cd31 "told_row" = true) (k31 : PySem.W.keepIn K (.ref f31) = true)
    (a32 : PySem.W.nsIn K mainGlobals "good_row" = some (some (.ref f32))) (l32 : K.lookup f32 = some ⟨oc32, od32, .func (PySem.W.fnOf "good_row" "good_row" (defArgs s_good_row) (defBody s_good_row) (defScope s_good_row) .none kV32 dc32 pm32 an32 cd32 ct32), sl32⟩) (c32 : PySem.W.codeIn K cd32 "good_row" = true) (k32 : PySem.W.keepIn K (.ref f32) = true)
    (a33 : PySem.W.nsIn K mainGlobals "_law_bag" = some (some (.ref f33))) (l33 : K.lookup f33 = some ⟨oc33, od33, .func (PySem.W.fnOf "_law_bag" "_law_bag" (defArgs s_bag) (defBody s_bag) (defScope s_bag) .none kV33 dc33 pm33 an33 cd33 ct33), sl33⟩) (c33 : PySem.W.codeIn K cd33 "_law_bag" = true) (k33 : PySem.W.keepIn K (.ref f33) = true)
    (a34 : PySem.W.nsIn K mainGlobals "_law_draw" = some (some (.ref f34))) (l34 : K.lookup f34 = some ⟨oc34, od34, .func (PySem.W.fnOf "_law_draw" "_law_draw" (defArgs s_draw) (defBody s_draw) (defScope s_draw) .none kV34 dc34 pm34 an34 cd34 ct34), sl34⟩) (c34 : PySem.W.codeIn K cd34 "_law_draw" = true) (k34 : PySem.W.keepIn K (.ref f34) = true)
    (a35 : PySem.W.nsIn K mainGlobals "_law_row" = some (some (.ref f35))) (l35 : K.lookup f35 = some ⟨oc35, od35, .func (PySem.W.fnOf "_law_row" "_law_row" (defArgs s_row) (defBody s_row) (defScope s_row) .none kV35 dc35 pm35 an35 cd35 ct35), sl35⟩) (c35 : PySem.W.codeIn K cd35 "_law_row" = true) (k35 : PySem.W.keepIn K (.ref f35) = true)
    (a36 : PySem.W.nsIn K mainGlobals "_law_page" = some (some (.ref f36))) (l36 : K.lookup f36 = some ⟨oc36, od36, .func (PySem.W.fnOf "_law_page" "_law_page" (defArgs s_page) (defBody s_page) (defScope s_page) .none kV36 dc36 pm36 an36 cd36 ct36), sl36⟩) (c36 : PySem.W.codeIn K cd36 "_law_page" = true) (k36 : PySem.W.keepIn K (.ref f36) = true)
    (a37 : PySem.W.nsIn K mainGlobals "_law_spoils" = some (some (.ref f37))) (l37 : K.lookup f37 = some ⟨oc37, od37, .func (PySem.W.fnOf "_law_spoils" "_law_spoils" (defArgs s_spoils) (defBody s_spoils) (defScope s_spoils) .none kV37 dc37 pm37 an37 cd37 ct37), sl37⟩) (c37 : PySem.W.codeIn K cd37 "_law_spoils" = true) (k37 : PySem.W.keepIn K (.ref f37) = true)
    (a38 : PySem.W.nsIn K mainGlobals "_law_mark_ends" = some (some (.ref f38))) (l38 : K.lookup f38 = some ⟨oc38, od38, .func (PySem.W.fnOf "_law_mark_ends" "_law_mark_ends" (defArgs s_lmark_ends) (defBody s_lmark_ends) (defScope s_lmark_ends) .none kV38 dc38 pm38 an38 cd38 ct38), sl38⟩) (c38 : PySem.W.codeIn K cd38 "_law_mark_ends" = true) (k38 : PySem.W.keepIn K (.ref f38) = true)
    (a39 : PySem.W.nsIn K mainGlobals "_law_stretches" = some (some (.ref f39))) (l39 : K.lookup f39 = some ⟨oc39, od39, .func (PySem.W.fnOf "_law_stretches" "_law_stretches" (defArgs s_lstretches) (defBody s_lstretches) (defScope s_lstretches) .none kV39 dc39 pm39 an39 cd39 ct39), sl39⟩) (c39 : PySem.W.codeIn K cd39 "_law_stretches" = true) (k39 : PySem.W.keepIn K (.ref f39) = true)
    (a40 : PySem.W.nsIn K mainGlobals "_law_followed" = some (some (.ref f40))) (l40 : K.lookup f40 = some ⟨oc40, od40, .func (PySem.W.fnOf "_law_followed" "_law_followed" (defArgs s_followed) (defBody s_followed) (defScope s_followed) .none kV40 dc40 pm40 an40 cd40 ct40), sl40⟩) (c40 : PySem.W.codeIn K cd40 "_law_followed" = true) (k40 : PySem.W.keepIn K (.ref f40) = true)
    (a41 : PySem.W.nsIn K mainGlobals "_law_came" = some (some (.ref f41))) (l41 : K.lookup f41 = some ⟨oc41, od41, .func (PySem.W.fnOf "_law_came" "_law_came" (defArgs s_came) (defBody s_came) (defScope s_came) .none kV41 dc41 pm41 an41 cd41 ct41), sl41⟩) (c41 : PySem.W.codeIn K cd41 "_law_came" = true) (k41 : PySem.W.keepIn K (.ref f41) = true)
    (a42 : PySem.W.nsIn K mainGlobals "_law_good" = some (some (.ref f42))) (l42 : K.lookup f42 = some ⟨oc42, od42, .func (PySem.W.fnOf "_law_good" "_law_good" (defArgs s_good) (defBody s_good) (defScope s_good) .none kV42 dc42 pm42 an42 cd42 ct42), sl42⟩) (c42 : PySem.W.codeIn K cd42 "_law_good" = true) (k42 : PySem.W.keepIn K (.ref f42) = true)
    (a43 : PySem.W.nsIn K mainGlobals "law" = some (some (.ref f43))) (l43 : K.lookup f43 = some ⟨oc43, od43, .func (PySem.W.fnOf "law" "law" (defArgs s_law) (defBody s_law) (defScope s_law) .none kV43 dc43 pm43 an43 cd43 ct43), sl43⟩) (c43 : PySem.W.codeIn K cd43 "law" = true) (k43 : PySem.W.keepIn K (.ref f43) = true)
    (xa_NoTelling : PySem.W.nsIn K mainGlobals "NoTelling" = some (some (.ref x_NoTelling))) (xq_NoTelling : PySem.W.excIn K x_NoTelling veB "ValueError.__new__" = true) (xk_NoTelling : PySem.W.keepIn K (.ref x_NoTelling) = true) (xs_NoTelling : PySem.W.subIn K (.ref x_NoTelling) (.type "BaseException") = some true) (xt_NoTelling : PySem.W.typeIn K (.ref x_NoTelling) = some (.type "type")) (xi_NoTelling : PySem.W.isClsIn K x_NoTelling = true) (xu_NoTelling : PySem.W.subIn K (.ref x_NoTelling) (.ref x_NoTelling) = some true)
    (z_abs : PySem.W.nsIn K mainGlobals "abs" = some none)
    (z_all : PySem.W.nsIn K mainGlobals "all" = some none)
    (z_enumerate : PySem.W.nsIn K mainGlobals "enumerate" = some none)
    (z_int : PySem.W.nsIn K mainGlobals "int" = some none)
    (z_isinstance : PySem.W.nsIn K mainGlobals "isinstance" = some none)
    (z_len : PySem.W.nsIn K mainGlobals "len" = some none)
    (z_list : PySem.W.nsIn K mainGlobals "list" = some none)
    (z_max : PySem.W.nsIn K mainGlobals "max" = some none)
    (z_min : PySem.W.nsIn K mainGlobals "min" = some none)
    (z_range : PySem.W.nsIn K mainGlobals "range" = some none)
    (z_sorted : PySem.W.nsIn K mainGlobals "sorted" = some none)
    (z_str : PySem.W.nsIn K mainGlobals "str" = some none)
    (z_tuple : PySem.W.nsIn K mainGlobals "tuple" = some none)
    (m_ABOVE_TAG : PySem.W.nsIn K mainGlobals "ABOVE_TAG" = some (some (.str "0" t_ABOVE_TAG)))
    (m_AHEAD : PySem.W.nsIn K mainGlobals "AHEAD" = some (some (.int (-1) t_AHEAD)))
    (m_DARK : PySem.W.nsIn K mainGlobals "DARK" = some (some (.str "#" t_DARK)))
    (m_ENDS : PySem.W.nsIn K mainGlobals "ENDS" = some (some (.int (16) t_ENDS)))
    (m_END_MARKS : PySem.W.nsIn K mainGlobals "END_MARKS" = some (some (.int (6) t_END_MARKS)))
    (m_GUESSED : PySem.W.nsIn K mainGlobals "GUESSED" = some (some (.str "guessed" t_GUESSED)))
    (m_LENGTHS_above : PySem.W.nsIn K mainGlobals "LENGTHS_above" = some (some (.ref t_LENGTHS_above)))
    (m_LENGTHS_words : PySem.W.nsIn K mainGlobals "LENGTHS_words" = some (some (.ref t_LENGTHS_words)))
    (m_LIGHT : PySem.W.nsIn K mainGlobals "LIGHT" = some (some (.str "." t_LIGHT)))
    (m_MAKERS : PySem.W.nsIn K mainGlobals "MAKERS" = some (some (.int (4) t_MAKERS)))
    (m_MARK : PySem.W.nsIn K mainGlobals "MARK" = some (some (.str "000000000001" t_MARK)))
    (m_MOST_NEAR : PySem.W.nsIn K mainGlobals "MOST_NEAR" = some (some (.int (3) t_MOST_NEAR)))
    (m_PLAIN_TAG : PySem.W.nsIn K mainGlobals "PLAIN_TAG" = some (some (.str "1" t_PLAIN_TAG)))
    (m_READ : PySem.W.nsIn K mainGlobals "READ" = some (some (.str "read" t_READ)))
    (m_STEPS : PySem.W.nsIn K mainGlobals "STEPS" = some (some (.ref t_STEPS)))
    (dl_LENGTHS_words : K.lookup t_LENGTHS_words = some ⟨.type "dict", none, .dict es_LENGTHS_words en_LENGTHS_words, #[]⟩) (dk_LENGTHS_words : PySem.W.KeysLit w.params es_LENGTHS_words.toList)
    (de_LENGTHS_words_0 : PySem.W.nsIn K t_LENGTHS_words (Str.ofString ".") = some (some (.ref u_LENGTHS_words_0))) (dt_LENGTHS_words_0 : K.lookup u_LENGTHS_words_0 = some ⟨.type "tuple", dd_LENGTHS_words_0, .seq us_LENGTHS_words_0.toArray un_LENGTHS_words_0, ul_LENGTHS_words_0⟩) (dv_LENGTHS_words_0 : Vals [.int 6, .int 4, .int 4, .int 4, .int 4, .int 4, .int 5, .int 5, .int 5, .int 5, .int 6, .int 6, .int 6, .int 6, .int 6, .int 6, .int 4, .int 5, .int 6, .int 4] us_LENGTHS_words_0)
    (de_LENGTHS_words_1 : PySem.W.nsIn K t_LENGTHS_words (Str.ofString "#") = some (some (.ref u_LENGTHS_words_1))) (dt_LENGTHS_words_1 : K.lookup u_LENGTHS_words_1 = some ⟨.type "tuple", dd_LENGTHS_words_1, .seq us_LENGTHS_words_1.toArray un_LENGTHS_words_1, ul_LENGTHS_words_1⟩) (dv_LENGTHS_words_1 : Vals [.int 7, .int 2, .int 3, .int 3, .int 4, .int 4, .int 5, .int 5, .int 5, .int 6, .int 6, .int 6, .int 7, .int 7, .int 7, .int 7, .int 6, .int 7, .int 7, .int 7] us_LENGTHS_words_1)
    {us_LENGTHS_above : List Value} {un_LENGTHS_above : Nat} {ul_LENGTHS_above : Array (Option Value)}
    (dt_LENGTHS_above : K.lookup t_LENGTHS_above = some ⟨.type "tuple", none, .seq us_LENGTHS_above.toArray un_LENGTHS_above, ul_LENGTHS_above⟩) (dv_LENGTHS_above : Vals [.int 1, .int 3, .int 3, .int 3, .int 5, .int 5, .int 6, .int 6, .int 6] us_LENGTHS_above)
    {us_STEPS : List Value} {un_STEPS : Nat} {ul_STEPS : Array (Option Value)}
    {v_STEPS_0 : Addr} {dd_STEPS_0 : Option Addr} {us_STEPS_0 : List Value} {un_STEPS_0 : Nat} {ul_STEPS_0 : Array (Option Value)}
    {v_STEPS_1 : Addr} {dd_STEPS_1 : Option Addr} {us_STEPS_1 : List Value} {un_STEPS_1 : Nat} {ul_STEPS_1 : Array (Option Value)}
    {v_STEPS_2 : Addr} {dd_STEPS_2 : Option Addr} {us_STEPS_2 : List Value} {un_STEPS_2 : Nat} {ul_STEPS_2 : Array (Option Value)}
    {v_STEPS_3 : Addr} {dd_STEPS_3 : Option Addr} {us_STEPS_3 : List Value} {un_STEPS_3 : Nat} {ul_STEPS_3 : Array (Option Value)}
    {v_STEPS_4 : Addr} {dd_STEPS_4 : Option Addr} {us_STEPS_4 : List Value} {un_STEPS_4 : Nat} {ul_STEPS_4 : Array (Option Value)}
    {v_STEPS_5 : Addr} {dd_STEPS_5 : Option Addr} {us_STEPS_5 : List Value} {un_STEPS_5 : Nat} {ul_STEPS_5 : Array (Option Value)}
    {v_STEPS_6 : Addr} {dd_STEPS_6 : Option Addr} {us_STEPS_6 : List Value} {un_STEPS_6 : Nat} {ul_STEPS_6 : Array (Option Value)}
    {v_STEPS_7 : Addr} {dd_STEPS_7 : Option Addr} {us_STEPS_7 : List Value} {un_STEPS_7 : Nat} {ul_STEPS_7 : Array (Option Value)}
    {v_STEPS_8 : Addr} {dd_STEPS_8 : Option Addr} {us_STEPS_8 : List Value} {un_STEPS_8 : Nat} {ul_STEPS_8 : Array (Option Value)}
    (dt_STEPS : K.lookup t_STEPS = some ⟨.type "tuple", none, .seq us_STEPS.toArray un_STEPS, ul_STEPS⟩) (dv_STEPS : Vals [.ref v_STEPS_0, .ref v_STEPS_1, .ref v_STEPS_2, .ref v_STEPS_3, .ref v_STEPS_4, .ref v_STEPS_5, .ref v_STEPS_6, .ref v_STEPS_7, .ref v_STEPS_8] us_STEPS)
    (dt_STEPS_0 : K.lookup v_STEPS_0 = some ⟨.type "tuple", dd_STEPS_0, .seq us_STEPS_0.toArray un_STEPS_0, ul_STEPS_0⟩) (dv_STEPS_0 : Vals [.str (Str.ofString "near"), .int 0] us_STEPS_0)
    (dt_STEPS_1 : K.lookup v_STEPS_1 = some ⟨.type "tuple", dd_STEPS_1, .seq us_STEPS_1.toArray un_STEPS_1, ul_STEPS_1⟩) (dv_STEPS_1 : Vals [.str (Str.ofString "near"), .int 1] us_STEPS_1)
    (dt_STEPS_2 : K.lookup v_STEPS_2 = some ⟨.type "tuple", dd_STEPS_2, .seq us_STEPS_2.toArray un_STEPS_2, ul_STEPS_2⟩) (dv_STEPS_2 : Vals [.str (Str.ofString "near"), .int (-1)] us_STEPS_2)
    (dt_STEPS_3 : K.lookup v_STEPS_3 = some ⟨.type "tuple", dd_STEPS_3, .seq us_STEPS_3.toArray un_STEPS_3, ul_STEPS_3⟩) (dv_STEPS_3 : Vals [.str (Str.ofString "plain")] us_STEPS_3)
    (dt_STEPS_4 : K.lookup v_STEPS_4 = some ⟨.type "tuple", dd_STEPS_4, .seq us_STEPS_4.toArray un_STEPS_4, ul_STEPS_4⟩) (dv_STEPS_4 : Vals [.str (Str.ofString "passed")] us_STEPS_4)
    (dt_STEPS_5 : K.lookup v_STEPS_5 = some ⟨.type "tuple", dd_STEPS_5, .seq us_STEPS_5.toArray un_STEPS_5, ul_STEPS_5⟩) (dv_STEPS_5 : Vals [.str (Str.ofString "near"), .int 2] us_STEPS_5)
    (dt_STEPS_6 : K.lookup v_STEPS_6 = some ⟨.type "tuple", dd_STEPS_6, .seq us_STEPS_6.toArray un_STEPS_6, ul_STEPS_6⟩) (dv_STEPS_6 : Vals [.str (Str.ofString "near"), .int (-2)] us_STEPS_6)
    (dt_STEPS_7 : K.lookup v_STEPS_7 = some ⟨.type "tuple", dd_STEPS_7, .seq us_STEPS_7.toArray un_STEPS_7, ul_STEPS_7⟩) (dv_STEPS_7 : Vals [.str (Str.ofString "near"), .int 3] us_STEPS_7)
    (dt_STEPS_8 : K.lookup v_STEPS_8 = some ⟨.type "tuple", dd_STEPS_8, .seq us_STEPS_8.toArray un_STEPS_8, ul_STEPS_8⟩) (dv_STEPS_8 : Vals [.str (Str.ofString "near"), .int (-3)] us_STEPS_8)
    : LamX.LawAtS l w K CX0 10 63 "_law_script" mg fa h := by
  have e := hfa.symm.trans (PySem.W.mg_of X G a43)
  cases e
  have F0 := fun_mk (st := s_is_bits) l0 c0 k0
  have b0 := F0.binds (ps := P_is_bits) fun _ _ _ _ _ _ us hl => match us, hl with | [_], _ => rfl
  have F1 := fun_mk (st := s_first_place) l1 c1 k1
  have b1 := F1.binds (ps := P_first_place) fun _ _ _ _ _ _ us hl => match us, hl with | [_, _, _], _ => rfl
  have F2 := fun_mk (st := s_places_of) l2 c2 k2
  have b2 := F2.binds (ps := P_places_of) fun _ _ _ _ _ _ us hl => match us, hl with | [_, _], _ => rfl
  have F3 := fun_mk (st := s_other_cell) l3 c3 k3
  have b3 := F3.binds (ps := P_other_cell) fun _ _ _ _ _ _ us hl => match us, hl with | [_], _ => rfl
  have F4 := fun_mk (st := s_words_by) l4 c4 k4
  have b4 := F4.binds (ps := P_words_by) fun _ _ _ _ _ _ us hl => match us, hl with | [_], _ => rfl
  have F5 := fun_mk (st := s_making_order) l5 c5 k5
  have b5 := F5.binds (ps := P_making_order) fun _ _ _ _ _ _ us hl => match us, hl with | [_], _ => rfl
  have F6 := fun_mk (st := s_one_less) l6 c6 k6
  have b6 := F6.binds (ps := P_one_less) fun _ _ _ _ _ _ us hl => match us, hl with | [_], _ => rfl
  have F7 := fun_mk (st := s_colour_words) l7 c7 k7
  have b7 := F7.binds (ps := P_colour_words) fun _ _ _ _ _ _ us hl => match us, hl with | [_], _ => rfl
  have F8 := fun_mk (st := s_run_by) l8 c8 k8
  have b8 := F8.binds (ps := P_run_by) fun _ _ _ _ _ _ us hl => match us, hl with | [_, _], _ => rfl
  have F9 := fun_mk (st := s_runs_of) l9 c9 k9
  have b9 := F9.binds (ps := P_runs_of) fun _ _ _ _ _ _ us hl => match us, hl with | [_], _ => rfl
  have F10 := fun_mk (st := s_plain_bits) l10 c10 k10
  have b10 := F10.binds (ps := P_plain_bits) fun _ _ _ _ _ _ us hl => match us, hl with | [_], _ => rfl
  have F11 := fun_mk (st := s_run_tables) l11 c11 k11
  have b11 := F11.binds (ps := P_run_tables) fun _ _ _ _ _ _ us hl => match us, hl with | [_], _ => rfl
  have F12 := fun_mk (st := s_run_table) l12 c12 k12
  have b12 := F12.binds (ps := P_run_table) fun _ _ _ _ _ _ us hl => match us, hl with | [_, _], _ => rfl
  have F13 := fun_mk (st := s_read_by) l13 c13 k13
  have b13 := F13.binds (ps := P_read_by) fun _ _ _ _ _ _ us hl => match us, hl with | [_, _, _], _ => rfl
  have F14 := fun_mk (st := s_read_plain) l14 c14 k14
  have b14 := F14.binds (ps := P_read_plain) fun _ _ _ _ _ _ us hl => match us, hl with | [_, _], _ => rfl
  have F15 := fun_mk (st := s_above_steps) l15 c15 k15
  have b15 := F15.binds (ps := P_above_steps) fun _ _ _ _ _ _ us hl => match us, hl with | [_, _], _ => rfl
  have F16 := fun_mk (st := s_step_at) l16 c16 k16
  have b16 := F16.binds (ps := P_step_at) fun _ _ _ _ _ _ us hl => match us, hl with | [_, _, _, _], _ => rfl
  have F17 := fun_mk (st := s_first_change) l17 c17 k17
  have b17 := F17.binds (ps := P_first_change) fun _ _ _ _ _ _ us hl => match us, hl with | [_, _, _], _ => rfl
  have F18 := fun_mk (st := s_led_to) l18 c18 k18
  have b18 := F18.binds (ps := P_led_to) fun _ _ _ _ _ _ us hl => match us, hl with | [_, _, _, _], _ => rfl
  have F19 := fun_mk (st := s_colour_behind) l19 c19 k19
  have b19 := F19.binds (ps := P_colour_behind) fun _ _ _ _ _ _ us hl => match us, hl with | [_, _], _ => rfl
  have F20 := fun_mk (st := s_above_bits) l20 c20 k20
  have b20 := F20.binds (ps := P_above_bits) fun _ _ _ _ _ _ us hl => match us, hl with | [_, _], _ => rfl
  have F21 := fun_mk (st := s_step_bits) l21 c21 k21
  have b21 := F21.binds (ps := P_step_bits) fun _ _ _ _ _ _ us hl => match us, hl with | [_, _, _, _], _ => rfl
  have F22 := fun_mk (st := s_read_above) l22 c22 k22
  have b22 := F22.binds (ps := P_read_above) fun _ _ _ _ _ _ us hl => match us, hl with | [_, _], _ => rfl
  have F23 := fun_mk (st := s_read_step) l23 c23 k23
  have b23 := F23.binds (ps := P_read_step) fun _ _ _ _ _ _ us hl => match us, hl with | [_, _, _, _, _], _ => rfl
  have F24 := fun_mk (st := s_row_behind) l24 c24 k24
  have b24 := F24.binds (ps := P_row_behind) fun _ _ _ _ _ _ us hl => match us, hl with | [_, _, _, _, _], _ => rfl
  have F25 := fun_mk (st := s_page_bits) l25 c25 k25
  have b25 := F25.binds (ps := P_page_bits) fun _ _ _ _ _ _ us hl => match us, hl with | [_, _, _], _ => rfl
  have F26 := fun_mk (st := s_row_bits) l26 c26 k26
  have b26 := F26.binds (ps := P_row_bits) fun _ _ _ _ _ _ us hl => match us, hl with | [_, _, _], _ => rfl
  have F27 := fun_mk (st := s_mark_ends) l27 c27 k27
  have b27 := F27.binds (ps := P_mark_ends) fun _ _ _ _ _ _ us hl => match us, hl with | [_], _ => rfl
  have F28 := fun_mk (st := s_stretches) l28 c28 k28
  have b28 := F28.binds (ps := P_stretches) fun _ _ _ _ _ _ us hl => match us, hl with | [_], _ => rfl
  have F29 := fun_mk (st := s_is_empty) l29 c29 k29
  have b29 := F29.binds (ps := P_is_empty) fun _ _ _ _ _ _ us hl => match us, hl with | [_], _ => rfl
  have F30 := fun_mk (st := s_read_bits) l30 c30 k30
  have b30 := F30.binds (ps := P_read_bits) fun _ _ _ _ _ _ us hl => match us, hl with | [_, _], _ => rfl
  have F31 := fun_mk (st := s_told_row) l31 c31 k31
  have b31 := F31.binds (ps := P_told_row) fun _ _ _ _ _ _ us hl => match us, hl with | [_, _, _], _ => rfl
  have F32 := fun_mk (st := s_good_row) l32 c32 k32
  have b32 := F32.binds (ps := P_good_row) fun _ _ _ _ _ _ us hl => match us, hl with | [_, _, _], _ => rfl
  have F33 := fun_mk (st := s_bag) l33 c33 k33
  have b33 := F33.binds (ps := P_bag) fun _ _ _ _ _ _ us hl => match us, hl with | [_, _], _ => rfl
  have F34 := fun_mk (st := s_draw) l34 c34 k34
  have b34 := F34.binds (ps := P_draw) fun _ _ _ _ _ _ us hl => match us, hl with | [_, _], _ => rfl
  have F35 := fun_mk (st := s_row) l35 c35 k35
  have b35 := F35.binds (ps := P_row) fun _ _ _ _ _ _ us hl => match us, hl with | [_, _, _], _ => rfl
  have F36 := fun_mk (st := s_page) l36 c36 k36
  have b36 := F36.binds (ps := P_page) fun _ _ _ _ _ _ us hl => match us, hl with | [_, _, _], _ => rfl
  have F37 := fun_mk (st := s_spoils) l37 c37 k37
  have b37 := F37.binds (ps := P_spoils) fun _ _ _ _ _ _ us hl => match us, hl with | [_, _, _], _ => rfl
  have F38 := fun_mk (st := s_lmark_ends) l38 c38 k38
  have b38 := F38.binds (ps := P_lmark_ends) fun _ _ _ _ _ _ us hl => match us, hl with | [_], _ => rfl
  have F39 := fun_mk (st := s_lstretches) l39 c39 k39
  have b39 := F39.binds (ps := P_lstretches) fun _ _ _ _ _ _ us hl => match us, hl with | [_], _ => rfl
  have F40 := fun_mk (st := s_followed) l40 c40 k40
  have b40 := F40.binds (ps := P_followed) fun _ _ _ _ _ _ us hl => match us, hl with | [_, _], _ => rfl
  have F41 := fun_mk (st := s_came) l41 c41 k41
  have b41 := F41.binds (ps := P_came) fun _ _ _ _ _ _ us hl => match us, hl with | [_, _, _], _ => rfl
  have F42 := fun_mk (st := s_good) l42 c42 k42
  have b42 := F42.binds (ps := P_good) fun _ _ _ _ _ _ us hl => match us, hl with | [_, _, _, _, _], _ => rfl
  have F43 := fun_mk (st := s_law) l43 c43 k43
  refine ⟨PySem.W.fnOf "law" "law" (defArgs s_law) (defBody s_law) (defScope s_law) .none kV43 dc43 pm43 an43 cd43 ct43, [(k_making_order, p_making_order)], spLaw K p_making_order, ?_, ?_, ?_, fun s v => .of_eq rfl, ?_, fun base kb nb tb => ?_⟩
  · intro q hq; rw [List.mem_singleton.mp hq]; exact hT_making_order
  · intro q hq; rw [List.mem_singleton.mp hq]; exact nT_making_order
  · intro q hq; rw [List.mem_singleton.mp hq]; exact PySem.W.codeHd_of_K X hd_making_order
  · exact fun H a ns hl _ hH hS => ⟨a, ns, rfl, hS, hl, hH _ (List.mem_singleton.mpr rfl), fun _ => rfl⟩
  · exact ok_law (A := ⟨f0, _, f1, _, f2, _, f3, _, f4, _, f5, _, f6, _, f7, _, f8, _, f9, _, f10, _, f11, _, f12, _, f13, _, f14, _, f15, _, f16, _, f17, _, f18, _, f19, _, f20, _, f21, _, f22, _, f23, _, f24, _, f25, _, f26, _, f27, _, f28, _, f29, _, f30, _, f31, _, f32, _, f33, _, f34, _, f35, _, f36, _, f37, _, f38, _, f39, _, f40, _, f41, _, f42, _, fa, _, t_ABOVE_TAG, t_AHEAD, t_DARK, t_ENDS, t_END_MARKS, t_GUESSED, t_LENGTHS_above, t_LENGTHS_words, t_LIGHT, t_MAKERS, t_MARK, t_MOST_NEAR, t_PLAIN_TAG, t_READ, t_STEPS, k_making_order, p_making_order, u_LENGTHS_words_0, u_LENGTHS_words_1, v_STEPS_0, v_STEPS_1, v_STEPS_2, v_STEPS_3, v_STEPS_4, v_STEPS_5, v_STEPS_6, v_STEPS_7, v_STEPS_8, x_NoTelling⟩) ⟨F0, b0, PySem.W.mg_of X G a0, F1, b1, PySem.W.mg_of X G a1, F2, b2, PySem.W.mg_of X G a2, F3, b3, PySem.W.mg_of X G a3, F4, b4, PySem.W.mg_of X G a4, F5, b5, PySem.W.mg_of X G a5, F6, b6, PySem.W.mg_of X G a6, F7, b7, PySem.W.mg_of X G a7, F8, b8, PySem.W.mg_of X G a8, F9, b9, PySem.W.mg_of X G a9, F10, b10, PySem.W.mg_of X G a10, F11, b11, PySem.W.mg_of X G a11, F12, b12, PySem.W.mg_of X G a12, F13, b13, PySem.W.mg_of X G a13, F14, b14, PySem.W.mg_of X G a14, F15, b15, PySem.W.mg_of X G a15, F16, b16, PySem.W.mg_of X G a16, F17, b17, PySem.W.mg_of X G a17, F18, b18, PySem.W.mg_of X G a18, F19, b19, PySem.W.mg_of X G a19, F20, b20, PySem.W.mg_of X G a20, F21, b21, PySem.W.mg_of X G a21, F22, b22, PySem.W.mg_of X G a22, F23, b23, PySem.W.mg_of X G a23, F24, b24, PySem.W.mg_of X G a24, F25, b25, PySem.W.mg_of X G a25, F26, b26, PySem.W.mg_of X G a26, F27, b27, PySem.W.mg_of X G a27, F28, b28, PySem.W.mg_of X G a28, F29, b29, PySem.W.mg_of X G a29, F30, b30, PySem.W.mg_of X G a30, F31, b31, PySem.W.mg_of X G a31, F32, b32, PySem.W.mg_of X G a32, F33, b33, PySem.W.mg_of X G a33, F34, b34, PySem.W.mg_of X G a34, F35, b35, PySem.W.mg_of X G a35, F36, b36, PySem.W.mg_of X G a36, F37, b37, PySem.W.mg_of X G a37, F38, b38, PySem.W.mg_of X G a38, F39, b39, PySem.W.mg_of X G a39, F40, b40, PySem.W.mg_of X G a40, F41, b41, PySem.W.mg_of X G a41, F42, b42, PySem.W.mg_of X G a42, F43, PySem.W.mg_of X G a43, tb _ (List.mem_singleton.mpr rfl), ⟨_, _, _, _, _, _, _, _, l5, c5⟩, ⟨_, _, _, dl_LENGTHS_words, dk_LENGTHS_words, de_LENGTHS_words_0, rfl⟩, fun H => .inr ⟨_, us_LENGTHS_words_0.toArray, _, dt_LENGTHS_words_0, rfl, rfl, by rw [List.size_toArray, ← dv_LENGTHS_words_0.length]; exact sz (by decide), by simpa using dv_LENGTHS_words_0⟩, ⟨_, _, _, dl_LENGTHS_words, dk_LENGTHS_words, de_LENGTHS_words_1, rfl⟩, fun H => .inr ⟨_, us_LENGTHS_words_1.toArray, _, dt_LENGTHS_words_1, rfl, rfl, by rw [List.size_toArray, ← dv_LENGTHS_words_1.length]; exact sz (by decide), by simpa using dv_LENGTHS_words_1⟩, fun H => .inr ⟨_, us_LENGTHS_above.toArray, _, dt_LENGTHS_above, rfl, rfl, by rw [List.size_toArray, ← dv_LENGTHS_above.length]; exact sz (by show 9 ≤ 100000; decide), by simpa using dv_LENGTHS_above⟩, ⟨_, dt_LENGTHS_above, rfl, rfl⟩, fun H => .inr ⟨_, us_STEPS.toArray, _, dt_STEPS, rfl, rfl, by rw [List.size_toArray, ← dv_STEPS.length]; exact sz (by show 9 ≤ 100000; decide), by simpa using dv_STEPS⟩, ⟨_, dt_STEPS, rfl, rfl⟩, fun H => .inr ⟨_, us_STEPS_0.toArray, _, dt_STEPS_0, rfl, rfl, by rw [List.size_toArray, ← dv_STEPS_0.length]; exact sz (by show 2 ≤ 100000; decide), by simpa using dv_STEPS_0⟩, fun H => .inr ⟨_, us_STEPS_1.toArray, _, dt_STEPS_1, rfl, rfl, by rw [List.size_toArray, ← dv_STEPS_1.length]; exact sz (by show 2 ≤ 100000; decide), by simpa using dv_STEPS_1⟩, fun H => .inr ⟨_, us_STEPS_2.toArray, _, dt_STEPS_2, rfl, rfl, by rw [List.size_toArray, ← dv_STEPS_2.length]; exact sz (by show 2 ≤ 100000; decide), by simpa using dv_STEPS_2⟩, fun H => .inr ⟨_, us_STEPS_3.toArray, _, dt_STEPS_3, rfl, rfl, by rw [List.size_toArray, ← dv_STEPS_3.length]; exact sz (by show 1 ≤ 100000; decide), by simpa using dv_STEPS_3⟩, fun H => .inr ⟨_, us_STEPS_4.toArray, _, dt_STEPS_4, rfl, rfl, by rw [List.size_toArray, ← dv_STEPS_4.length]; exact sz (by show 1 ≤ 100000; decide), by simpa using dv_STEPS_4⟩, fun H => .inr ⟨_, us_STEPS_5.toArray, _, dt_STEPS_5, rfl, rfl, by rw [List.size_toArray, ← dv_STEPS_5.length]; exact sz (by show 2 ≤ 100000; decide), by simpa using dv_STEPS_5⟩, fun H => .inr ⟨_, us_STEPS_6.toArray, _, dt_STEPS_6, rfl, rfl, by rw [List.size_toArray, ← dv_STEPS_6.length]; exact sz (by show 2 ≤ 100000; decide), by simpa using dv_STEPS_6⟩, fun H => .inr ⟨_, us_STEPS_7.toArray, _, dt_STEPS_7, rfl, rfl, by rw [List.size_toArray, ← dv_STEPS_7.length]; exact sz (by show 2 ≤ 100000; decide), by simpa using dv_STEPS_7⟩, fun H => .inr ⟨_, us_STEPS_8.toArray, _, dt_STEPS_8, rfl, rfl, by rw [List.size_toArray, ← dv_STEPS_8.length]; exact sz (by show 2 ≤ 100000; decide), by simpa using dv_STEPS_8⟩, PySem.W.mg_of X G xa_NoTelling, xq_NoTelling, xk_NoTelling, xs_NoTelling, xt_NoTelling, exm_own xs_NoTelling xi_NoTelling xt_NoTelling xu_NoTelling, PySem.W.mg_none_of X G z_abs, PySem.W.mg_none_of X G z_all, PySem.W.mg_none_of X G z_enumerate, PySem.W.mg_none_of X G z_int, PySem.W.mg_none_of X G z_isinstance, PySem.W.mg_none_of X G z_len, PySem.W.mg_none_of X G z_list, PySem.W.mg_none_of X G z_max, PySem.W.mg_none_of X G z_min, PySem.W.mg_none_of X G z_range, PySem.W.mg_none_of X G z_sorted, PySem.W.mg_none_of X G z_str, PySem.W.mg_none_of X G z_tuple, PySem.W.mg_of X G m_ABOVE_TAG, PySem.W.mg_of X G m_AHEAD, PySem.W.mg_of X G m_DARK, PySem.W.mg_of X G m_ENDS, PySem.W.mg_of X G m_END_MARKS, PySem.W.mg_of X G m_GUESSED, PySem.W.mg_of X G m_LENGTHS_above, PySem.W.mg_of X G m_LENGTHS_words, PySem.W.mg_of X G m_LIGHT, PySem.W.mg_of X G m_MAKERS, PySem.W.mg_of X G m_MARK, PySem.W.mg_of X G m_MOST_NEAR, PySem.W.mg_of X G m_PLAIN_TAG, PySem.W.mg_of X G m_READ, PySem.W.mg_of X G m_STEPS⟩
end K25
open PySem PySem.W PyProof.Rows
set_option maxHeartbeats 0 in
theorem PySem.Challenge.cw_farpage_k25_whole_untouched_rows_read_holds : PySem.Challenge.rw_farpage_k25_whole_untouched_rows_read.Holds := by
  w_on; o_law; k_head; (case hw => w_witness2)
  k_fill
  refine LamX.walk_ofTs (l := PySem.Challenge.rw_farpage_k25_whole_untouched_rows_read) (n := 63) (k := 10) (x := "_law_script") (CX := fun _ => L2.CX0) rfl (by decide) rfl ⟨rfl, by decide, by decide⟩ (fun w h Y => PySem.W.km_in_of Y) ?F (fun _ _ _ _ _ h => h)
  case F =>
    intro w mg fa h Y KX G hmg
    have tabs := PySem.W.km_tabs_of Y
    refine' K25.all_mk KX G hmg ?a0 ?l0 ?c0 ?k0 ?a1 ?l1 ?c1 ?k1 ?a2 ?l2 ?c2 ?k2 ?a3 ?l3 ?c3 ?k3 ?a4 ?l4 ?c4 ?k4 ?a5 ?l5 ?c5 ?k5 ?hT_making_order ?hd_making_order ?nT_making_order ?a6 ?l6 ?c6 ?k6 ?a7 ?l7 ?c7 ?k7 ?a8 ?l8 ?c8 ?k8 ?a9 ?l9 ?c9 ?k9 ?a10 ?l10 ?c10 ?k10 ?a11 ?l11 ?c11 ?k11 ?a12 ?l12 ?c12 ?k12 ?a13 ?l13 ?c13 ?k13 ?a14 ?l14 ?c14 ?k14 ?a15 ?l15 ?c15 ?k15 ?a16 ?l16 ?c16 ?k16 ?a17 ?l17 ?c17 ?k17 ?a18 ?l18 ?c18 ?k18 ?a19 ?l19 ?c19 ?k19 ?a20 ?l20 ?c20 ?k20 ?a21 ?l21 ?c21 ?k21 ?a22 ?l22 ?c22 ?k22 ?a23 ?l23 ?c23 ?k23 ?a24 ?l24 ?c24 ?k24 ?a25 ?l25 ?c25 ?k25 ?a26 ?l26 ?c26 ?k26 ?a27 ?l27 ?c27 ?k27 ?a28 ?l28 ?c28 ?k28 ?a29 ?l29 ?c29 ?k29 ?a30 ?l30 ?c30 ?k30 ?a31 ?l31 ?c31 ?k31 ?a32 ?l32 ?c32 ?k32 ?a33 ?l33 ?c33 ?k33 ?a34 ?l34 ?c34 ?k34 ?a35 ?l35 ?c35 ?k35 ?a36 ?l36 ?c36 ?k36 ?a37 ?l37 ?c37 ?k37 ?a38 ?l38 ?c38 ?k38 ?a39 ?l39 ?c39 ?k39 ?a40 ?l40 ?c40 ?k40 ?a41 ?l41 ?c41 ?k41 ?a42 ?l42 ?c42 ?k42 ?a43 ?l43 ?c43 ?k43 ?xa_NoTelling ?xq_NoTelling ?xk_NoTelling ?xs_NoTelling ?xt_NoTelling ?xi_NoTelling ?xu_NoTelling ?z_abs ?z_all ?z_enumerate ?z_int ?z_isinstance ?z_len ?z_list ?z_max ?z_min ?z_range ?z_sorted ?z_str ?z_tuple ?m_ABOVE_TAG ?m_AHEAD ?m_DARK ?m_ENDS ?m_END_MARKS ?m_GUESSED ?m_LENGTHS_above ?m_LENGTHS_words ?m_LIGHT ?m_MAKERS ?m_MARK ?m_MOST_NEAR ?m_PLAIN_TAG ?m_READ ?m_STEPS ?dl_LENGTHS_words ?dk_LENGTHS_words ?de_LENGTHS_words_0 ?dt_LENGTHS_words_0 ?dv_LENGTHS_words_0 ?de_LENGTHS_words_1 ?dt_LENGTHS_words_1 ?dv_LENGTHS_words_1 ?dt_LENGTHS_above ?dv_LENGTHS_above ?dt_STEPS ?dv_STEPS ?dt_STEPS_0 ?dv_STEPS_0 ?dt_STEPS_1 ?dv_STEPS_1 ?dt_STEPS_2 ?dv_STEPS_2 ?dt_STEPS_3 ?dv_STEPS_3 ?dt_STEPS_4 ?dv_STEPS_4 ?dt_STEPS_5 ?dv_STEPS_5 ?dt_STEPS_6 ?dv_STEPS_6 ?dt_STEPS_7 ?dv_STEPS_7 ?dt_STEPS_8 ?dv_STEPS_8
    (case xa_NoTelling => k_is)
    (case a0 => k_is)
    (case l0 => k_is)
    (case c0 => k_is)
    (case k0 => k_is)
    (case a1 => k_is)
    (case l1 => k_is)
    (case c1 => k_is)
    (case k1 => k_is)
    (case a2 => k_is)
    (case l2 => k_is)
    (case c2 => k_is)
    (case k2 => k_is)
    (case a3 => k_is)
    (case l3 => k_is)
    (case c3 => k_is)
    (case k3 => k_is)
    (case a4 => k_is)
    (case l4 => k_is)
    (case c4 => k_is)
    (case k4 => k_is)
    (case a5 => k_is)
    (case l5 => k_is)
    (case c5 => k_is)
    (case k5 => k_is)
    (case hT_making_order => exact tabs _ (List.mem_singleton.mpr rfl))
    (case hd_making_order => first | k_is | exact rfl | kernel_rfl)
    (case nT_making_order => first | exact rfl | kernel_rfl)
    (case a6 => k_is)
    (case l6 => k_is)
    (case c6 => k_is)
    (case k6 => k_is)
    (case a7 => k_is)
    (case l7 => k_is)
    (case c7 => k_is)
    (case k7 => k_is)
    (case a8 => k_is)
    (case l8 => k_is)
    (case c8 => k_is)
    (case k8 => k_is)
    (case a9 => k_is)
    (case l9 => k_is)
    (case c9 => k_is)
    (case k9 => k_is)
    (case a10 => k_is)
    (case l10 => k_is)
    (case c10 => k_is)
    (case k10 => k_is)
    (case a11 => k_is)
    (case l11 => k_is)
    (case c11 => k_is)
    (case k11 => k_is)
    (case a12 => k_is)
    (case l12 => k_is)
    (case c12 => k_is)
    (case k12 => k_is)
    (case a13 => k_is)
    (case l13 => k_is)
    (case c13 => k_is)
    (case k13 => k_is)
    (case a14 => k_is)
    (case l14 => k_is)
    (case c14 => k_is)
    (case k14 => k_is)
    (case a15 => k_is)
    (case l15 => k_is)
    (case c15 => k_is)
    (case k15 => k_is)
    (case a16 => k_is)
    (case l16 => k_is)
    (case c16 => k_is)
    (case k16 => k_is)
    (case a17 => k_is)
    (case l17 => k_is)
    (case c17 => k_is)
    (case k17 => k_is)
    (case a18 => k_is)
    (case l18 => k_is)
    (case c18 => k_is)
    (case k18 => k_is)
    (case a19 => k_is)
    (case l19 => k_is)
    (case c19 => k_is)
    (case k19 => k_is)
    (case a20 => k_is)
    (case l20 => k_is)
    (case c20 => k_is)
    (case k20 => k_is)
    (case a21 => k_is)
    (case l21 => k_is)
    (case c21 => k_is)
    (case k21 => k_is)
    (case a22 => k_is)
    (case l22 => k_is)
    (case c22 => k_is)
    (case k22 => k_is)
    (case a23 => k_is)
    (case l23 => k_is)
    (case c23 => k_is)
    (case k23 => k_is)
    (case a24 => k_is)
    (case l24 => k_is)
    (case c24 => k_is)
    (case k24 => k_is)
    (case a25 => k_is)
    (case l25 => k_is)
    (case c25 => k_is)
    (case k25 => k_is)
    (case a26 => k_is)
    (case l26 => k_is)
    (case c26 => k_is)
    (case k26 => k_is)
    (case a27 => k_is)
    (case l27 => k_is)
    (case c27 => k_is)
    (case k27 => k_is)
    (case a28 => k_is)
    (case l28 => k_is)
    (case c28 => k_is)
    (case k28 => k_is)
    (case a29 => k_is)
    (case l29 => k_is)
    (case c29 => k_is)
    (case k29 => k_is)
    (case a30 => k_is)
    (case l30 => k_is)
    (case c30 => k_is)
    (case k30 => k_is)
    (case a31 => k_is)
    (case l31 => k_is)
    (case c31 => k_is)
    (case k31 => k_is)
    (case a32 => k_is)
    (case l32 => k_is)
    (case c32 => k_is)
    (case k32 => k_is)
    (case a33 => k_is)
    (case l33 => k_is)
    (case c33 => k_is)
    (case k33 => k_is)
    (case a34 => k_is)
    (case l34 => k_is)
    (case c34 => k_is)
    (case k34 => k_is)
    (case a35 => k_is)
    (case l35 => k_is)
    (case c35 => k_is)
    (case k35 => k_is)
    (case a36 => k_is)
    (case l36 => k_is)
    (case c36 => k_is)
    (case k36 => k_is)
    (case a37 => k_is)
    (case l37 => k_is)
    (case c37 => k_is)
    (case k37 => k_is)
    (case a38 => k_is)
    (case l38 => k_is)
    (case c38 => k_is)
    (case k38 => k_is)
    (case a39 => k_is)
    (case l39 => k_is)
    (case c39 => k_is)
    (case k39 => k_is)
    (case a40 => k_is)
    (case l40 => k_is)
    (case c40 => k_is)
    (case k40 => k_is)
    (case a41 => k_is)
    (case l41 => k_is)
    (case c41 => k_is)
    (case k41 => k_is)
    (case a42 => k_is)
    (case l42 => k_is)
    (case c42 => k_is)
    (case k42 => k_is)
    (case a43 => k_is)
    (case l43 => k_is)
    (case c43 => k_is)
    (case k43 => k_is)
    (case xq_NoTelling => k_exc)
    (case xk_NoTelling => k_is)
    (case xs_NoTelling => k_is)
    (case xt_NoTelling => k_is)
    (case xi_NoTelling => k_is)
    (case xu_NoTelling => first | rfl | k_is)
    (case z_abs => k_is)
    (case z_all => k_is)
    (case z_enumerate => k_is)
    (case z_int => k_is)
    (case z_isinstance => k_is)
    (case z_len => k_is)
    (case z_list => k_is)
    (case z_max => k_is)
    (case z_min => k_is)
    (case z_range => k_is)
    (case z_sorted => k_is)
    (case z_str => k_is)
    (case z_tuple => k_is)
    (case m_ABOVE_TAG => k_is)
    (case m_AHEAD => k_is)
    (case m_DARK => k_is)
    (case m_ENDS => k_is)
    (case m_END_MARKS => k_is)
    (case m_GUESSED => k_is)
    (case m_LENGTHS_above => k_is)
    (case m_LENGTHS_words => k_is)
    (case m_LIGHT => k_is)
    (case m_MAKERS => k_is)
    (case m_MARK => k_is)
    (case m_MOST_NEAR => k_is)
    (case m_PLAIN_TAG => k_is)
    (case m_READ => k_is)
    (case m_STEPS => k_is)
    (case dl_LENGTHS_words => k_is)
    (case dk_LENGTHS_words => k_keys)
    (case de_LENGTHS_words_0 => k_is)
    (case dt_LENGTHS_words_0 => k_is)
    (case dv_LENGTHS_words_0 => repeat (first | exact .nil | refine .cons ⟨_, rfl⟩ ?_ | refine .cons rfl ?_))
    (case de_LENGTHS_words_1 => k_is)
    (case dt_LENGTHS_words_1 => k_is)
    (case dv_LENGTHS_words_1 => repeat (first | exact .nil | refine .cons ⟨_, rfl⟩ ?_ | refine .cons rfl ?_))
    (case dt_LENGTHS_above => k_is)
    (case dv_LENGTHS_above => repeat (first | exact .nil | refine .cons ⟨_, rfl⟩ ?_ | refine .cons rfl ?_))
    (case dt_STEPS => k_is)
    (case dv_STEPS => repeat (first | exact .nil | refine .cons ⟨_, rfl⟩ ?_ | refine .cons rfl ?_))
    (case dt_STEPS_0 => k_is)
    (case dv_STEPS_0 => repeat (first | exact .nil | refine .cons ⟨_, rfl⟩ ?_ | refine .cons rfl ?_))
    (case dt_STEPS_1 => k_is)
    (case dv_STEPS_1 => repeat (first | exact .nil | refine .cons ⟨_, rfl⟩ ?_ | refine .cons rfl ?_))
    (case dt_STEPS_2 => k_is)
    (case dv_STEPS_2 => repeat (first | exact .nil | refine .cons ⟨_, rfl⟩ ?_ | refine .cons rfl ?_))
    (case dt_STEPS_3 => k_is)
    (case dv_STEPS_3 => repeat (first | exact .nil | refine .cons ⟨_, rfl⟩ ?_ | refine .cons rfl ?_))
    (case dt_STEPS_4 => k_is)
    (case dv_STEPS_4 => repeat (first | exact .nil | refine .cons ⟨_, rfl⟩ ?_ | refine .cons rfl ?_))
    (case dt_STEPS_5 => k_is)
    (case dv_STEPS_5 => repeat (first | exact .nil | refine .cons ⟨_, rfl⟩ ?_ | refine .cons rfl ?_))
    (case dt_STEPS_6 => k_is)
    (case dv_STEPS_6 => repeat (first | exact .nil | refine .cons ⟨_, rfl⟩ ?_ | refine .cons rfl ?_))
    (case dt_STEPS_7 => k_is)
    (case dv_STEPS_7 => repeat (first | exact .nil | refine .cons ⟨_, rfl⟩ ?_ | refine .cons rfl ?_))
    (case dt_STEPS_8 => k_is)
    (case dv_STEPS_8 => repeat (first | exact .nil | refine .cons ⟨_, rfl⟩ ?_ | refine .cons rfl ?_))
