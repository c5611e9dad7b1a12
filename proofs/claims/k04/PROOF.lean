import PyProof.Rows.All
import Wide.All
import OpenK.AllK
import Wide.FinOn
import HandS.ForMost
import HandS.IsInst
import HandS.StrMore
import HandS.Codes
import HandS.Evl
import PyProof.Rows.StrJoinRep
import PySem.Challenge.RW_farpage_k04_pages_fitted
set_option Elab.async false
set_option linter.all false
set_option maxRecDepth 100000
set_option maxHeartbeats 4000000
/-! Rules of our own over the hand layer: a sign times an int, list(text), ljust with a sign. -/
namespace Fp
open PySem L2 PyProof.Rows
/-- a text by its codes -/
def sOf (l : List Nat) : Str := ⟨l.toArray⟩
theorem sOf_list (l : List Nat) : (sOf l).cps.toList = l := by simp [sOf]
theorem sOf_len (l : List Nat) : (sOf l).length = l.length := by simp [sOf, Str.length]
theorem of_list {z : Str} {l : List Nat} (h : z.cps.toList = l) : z = sOf l := str_of_list (by rw [h, sOf_list])
theorem sOf_inj {l m : List Nat} (h : sOf l = sOf m) : l = m := by
  have := congrArg (fun z => z.cps.toList) h
  simpa [sOf] using this
theorem sOf_app (l m : List Nat) : sOf l ++ sOf m = sOf (l ++ m) := by
  apply of_list
  show ((sOf l) ++ (sOf m)).cps.toList = l ++ m
  rw [show ((sOf l) ++ (sOf m)).cps = (sOf l).cps ++ (sOf m).cps from rfl]
  simp [sOf]
section
variable {X : Cx}
theorem op_mul_str : OpR X (binaryOp .Mult) (fun x y H Q => ∃ c n, x = .str (sOf [c]) ∧ y = .int n ∧ (-100000 ≤ n ∧ n ≤ 100000) ∧ Q (.str (sOf (List.replicate n.toNat c))) H) := by
  intro pins s σ H x y v u Q I rx ry h
  obtain ⟨c, n, rfl, rfl, hz, q⟩ := h
  obtain ⟨t, rfl⟩ := rx
  obtain ⟨t', rfl⟩ := ry
  refine SB.mul (mulOk_of 1 100000 (by rw [sOf_len]; exact Nat.le_refl _) (by omega) (by omega) (by decide) (by decide)) fun t' k => ?_
  have e : Txt.mul (sOf [c]) n = sOf (List.replicate n.toNat c) := of_list (mul_one_list c n)
  rw [e]
  exact ⟨.str (sOf (List.replicate n.toNat c)), H, I.tok _, ⟨_, rfl⟩, q⟩
theorem padOk {i : Int} (h0 : 0 ≤ i) (h1 : i ≤ 100000) : PadOk i = true := padOk_of (by omega) (by omega)
theorem mt_ljustF : MtR X "str.ljust" (fun x xs H Q => ∃ (l : List Nat) (i : Int) (c : Nat), x = .str (sOf l) ∧ xs = [.int i, .str (sOf [c])] ∧ (0 ≤ i ∧ i ≤ 100000) ∧ Q (.str (sOf (l ++ List.replicate (i.toNat - l.length) c))) H) := by
  intro pins s σ H x xs v us Q I rx rs h
  obtain ⟨l, i, c, rfl, rfl, hz, q⟩ := h
  obtain ⟨t, rfl⟩ := rx
  obtain ⟨u, w', rfl, ⟨t', rfl⟩, ⟨t'', rfl⟩⟩ := vals2 rs
  refine ljust_fill (padOk hz.1 hz.2) (sOf_len _) fun t' k => ?_
  have e : Txt.ljustF (sOf l) i ((sOf [c]).cps.getD 0 0) = sOf (l ++ List.replicate (i.toNat - l.length) c) := of_list (by
    rw [ljustF_list, sOf_list, sOf_len]
    rfl)
  rw [e]
  exact ⟨.str (sOf (l ++ List.replicate (i.toNat - l.length) c)), H, I.tok _, ⟨_, rfl⟩, q⟩
theorem vals_signs {acc : List Value} {l : List Nat} (h1 : acc.length = l.length) (h2 : ∀ (j : Nat) v, acc[j]? = some v → ∃ c u, l[j]? = some c ∧ v = .str ⟨#[c]⟩ u) : Vals (l.map fun c => V.str (sOf [c])) acc := by
  induction l generalizing acc with
  | nil =>
    cases acc with
    | nil => exact .nil
    | cons a r => simp at h1
  | cons c r ih =>
    cases acc with
    | nil => simp at h1
    | cons a b =>
      obtain ⟨c', u, e, rfl⟩ := h2 0 a rfl
      have e2 : c' = c := by simpa using e.symm
      subst e2
      exact .cons ⟨u, rfl⟩ (ih (by simpa using h1) fun j v hj => h2 (j + 1) v hj)
theorem call_list_str (hc : X.calm = true) : CallR X (.type "list") (fun xs H Q => ∃ z : List Nat, xs = [.str (sOf z)] ∧ z.length ≤ 100000 ∧ ∀ l, H l = none → Q (.ref l) (upd H l (.lst (z.map fun c => V.str (sOf [c]))))) := by
  intro pins s σ H xs us Q I r h
  obtain ⟨z, rfl, hz, q⟩ := h
  obtain ⟨u, rfl, t, rfl⟩ := vals1 r
  have hl : z.length ≤ sizeLine := Nat.le_trans hz (by decide)
  refine PySem.call_list_str (I.ok.hd hc) (sOf z) t (hn := by show (sOf z).length ≤ sizeLine; rw [sOf_len]; exact hl) fun h' tk acc' c' hk hS' hacc => ?_
  have r' : Vals (z.map fun c => V.str (sOf [c])) acc'.toList := vals_signs (by have := hacc.1; simpa [sOf] using this) fun j v hj => by
    obtain ⟨c, u, e, rfl⟩ := hacc.2 j v (by simpa using hj)
    exact ⟨c, u, by simpa [sOf] using e, rfl⟩
  exact ⟨.ref s.heap.objs.size, _, I.laid (t' := tk) hk (Nat.le_refl _) (show ObjOk X.prog X.w _ h' _ (.lst _) from ⟨by rw [List.length_map]; exact hl, acc'.toList, c', r', by simpa using hS'⟩), rfl, q _ (I.hok.fresh (Nat.le_refl _))⟩
end
/-! ### heaps -/
theorem same_new {H : Hp} {p : Addr} {o : HO} (h : H p = none) : Same H (upd H p o) := fun b x e => by
  rw [upd_ne (ne_of_none e h)]
  exact e
/-- what is new may change -/
theorem Same.mut {H H' : Hp} {p : Addr} {o : HO} (e : Same H H') (h : H p = none) : Same H (upd H' p o) := fun b x hb => by
  rw [upd_ne (ne_of_none hb h)]
  exact e b x hb
/-- a bag of the laws' draws -/
def BagAt (H : Hp) (b : Addr) : Prop := ∃ g s : Int, H b = some (.lst [.int g, .int s]) ∧ 0 ≤ g ∧ 0 ≤ s ∧ s < 1000000000000
/-- the bag has turned, what else stood stands -/
def Bx (b : Addr) (H H' : Hp) : Prop := BagAt H' b ∧ ∀ a o, a ≠ b → H a = some o → H' a = some o
theorem Bx.refl {b : Addr} {H : Hp} (h : BagAt H b) : Bx b H H := ⟨h, fun _ _ _ e => e⟩
theorem Bx.trans {b : Addr} {H H1 H2 : Hp} (x : Bx b H H1) (y : Bx b H1 H2) : Bx b H H2 := ⟨y.1, fun a o n e => y.2 a o n (x.2 a o n e)⟩
theorem Bx.drawn {b : Addr} {H : Hp} {g s : Int} (g0 : 0 ≤ g) (s0 : 0 ≤ s) (s1 : s < 1000000000000) : Bx b H (upd H b (.lst [.int g, .int s])) := ⟨⟨g, s, upd_same, g0, s0, s1⟩, fun a o n e => by
  rw [upd_ne n]
  exact e⟩
theorem Bx.same {b : Addr} {H H1 H2 : Hp} (x : Bx b H H1) (y : Same H1 H2) : Bx b H H2 := by
  obtain ⟨⟨g, s, h, r⟩, k⟩ := x
  exact ⟨⟨g, s, y _ _ h, r⟩, fun a o n e => y _ _ (k a o n e)⟩
/-- from before the bag was made -/
theorem Bx.back {b : Addr} {H0 H H' : Hp} (x : Bx b H H') (y : Same H0 H) (n : H0 b = none) : Same H0 H' := fun a o e => x.2 a o (ne_of_none e n) (y a o e)
theorem Bx.mut {b p : Addr} {H H' : Hp} {o : HO} (x : Bx b H H') (hp : H p = none) (n : p ≠ b) : Bx b H (upd H' p o) := by
  obtain ⟨⟨g, s, h, r⟩, k⟩ := x
  refine ⟨⟨g, s, by rw [upd_ne n.symm]; exact h, r⟩, fun a u m e => ?_⟩
  rw [upd_ne (ne_of_none e hp)]
  exact k a u m e
theorem Bx.free {b p : Addr} {H H' : Hp} (x : Bx b H H') (h : H' p = none) : H p = none := by
  have n : p ≠ b := by
    obtain ⟨g, s, e, _⟩ := x.1
    exact (ne_of_none e h).symm
  cases q : H p with
  | none => rfl
  | some o =>
    rw [x.2 p o n q] at h
    cases h
theorem BagAt.new {H : Hp} {p : Addr} {g s : Int} (g0 : 0 ≤ g) (s0 : 0 ≤ s) (s1 : s < 1000000000000) : BagAt (upd H p (.lst [.int g, .int s])) p := ⟨g, s, upd_same, g0, s0, s1⟩
theorem BagAt.ne {H : Hp} {b p : Addr} (h : BagAt H b) (n : H p = none) : p ≠ b := by
  obtain ⟨g, s, e, _⟩ := h
  exact (ne_of_none e n).symm
/-- a list's own address is no bag's where its items are texts -/
def cells (l : List Nat) : List V := l.map fun c => V.str (sOf [c])
theorem cells_len (l : List Nat) : (cells l).length = l.length := List.length_map ..
theorem cells_set (l : List Nat) (j c : Nat) : (cells l).set j (.str (sOf [c])) = cells (l.set j c) := by
  unfold cells
  rw [List.map_set]
theorem cells_app (l : List Nat) (c : Nat) : cells l ++ [.str (sOf [c])] = cells (l ++ [c]) := by
  unfold cells
  rw [List.map_append]
  rfl
/-- the cells of rows -/
def Cell (c : Nat) : Prop := c = 46 ∨ c = 35
def Row (l : List Nat) : Prop := ∀ c ∈ l, Cell c
theorem Row.set {l : List Nat} {j c : Nat} (h : Row l) (hc : Cell c) : Row (l.set j c) := fun x hx => by
  rcases List.mem_or_eq_of_mem_set hx with e | e
  · exact h x e
  · rw [e]
    exact hc
theorem Row.app {l : List Nat} {c : Nat} (h : Row l) (hc : Cell c) : Row (l ++ [c]) := fun x hx => by
  rcases List.mem_append.mp hx with e | e
  · exact h x e
  · rw [List.mem_singleton.mp e]
    exact hc
theorem Row.rep {n c : Nat} (hc : Cell c) : Row (List.replicate n c) := fun x hx => by
  rw [(List.mem_replicate.mp hx).2]
  exact hc
theorem Row.nil : Row [] := fun _ h => nomatch h
def cellN (i : Int) : Nat := if i = 0 then 46 else 35
theorem cellN_cell (i : Int) : Cell (cellN i) := by
  unfold cellN
  split
  · exact .inl rfl
  · exact .inr rfl
theorem cell_at {i : Int} (h0 : 0 ≤ i) (h1 : i < 2) : atI (Str.ofString ".#").cps.toList i = some (cellN i) := by
  have : i = 0 ∨ i = 1 := by omega
  rcases this with rfl | rfl <;> rfl
theorem two_len : (Str.ofString ".#").length ≤ sizeLine := by decide
theorem sz {n : Nat} (h : n ≤ 100000) : n ≤ sizeLine := Nat.le_trans h (by decide)
theorem szl {n : Nat} (h : n < 100000) : n < sizeLine := Nat.lt_of_lt_of_le h (by decide)
theorem sIx_nat' (n d a : Nat) : HT.sIx n d (some (a : Int)) = min a n := HT.sIx_nat n d a
theorem cutS_nat (l : List Nat) (a b : Nat) (ha : a ≤ l.length) (hb : b ≤ l.length) : cutS (sOf l) (some (a : Int)) (some (b : Int)) = sOf ((l.drop a).take (b - a)) := by
  unfold cutS
  rw [HT.sIx_nat, HT.sIx_nat, sOf_len, sOf_list, Nat.min_eq_left ha, Nat.min_eq_left hb]
  rfl
theorem take_more {α : Type} (l : List α) (i : Nat) (x : α) (h : l[i]? = some x) : l.take (i + 1) = l.take i ++ [x] := by
  rw [List.take_add_one, h]
  rfl
theorem range_more {α : Type} (f : Nat → α) (i : Nat) : (List.range (i + 1)).map f = (List.range i).map f ++ [f i] := by
  rw [List.range_succ, List.map_append]
  rfl
theorem join_cells : ∀ l : List Nat, Txt.join (Str.ofString "") (l.map fun c => sOf [c]) = sOf l := by
  intro l
  show Builtin.Str.glued (Str.ofString "") (l.map fun c => sOf [c]) = sOf l
  rw [StrLaws.glued_eq_join]
  induction l with
  | nil => rfl
  | cons c r ih =>
    cases r with
    | nil => rfl
    | cons d r =>
      show sOf [c] ++ Str.ofString "" ++ Str.join (Str.ofString "") (List.map (fun c => sOf [c]) (d :: r)) = sOf (c :: d :: r)
      rw [ih, show (Str.ofString "") = sOf [] from rfl, sOf_app, sOf_app]
      rfl
theorem cells_strs (l : List Nat) : cells l = (l.map fun c => sOf [c]).map V.str := by
  rw [List.map_map]
  rfl
theorem ones_sum (l : List Nat) : ((l.map fun c => sOf [c]).map (·.length)).sum = l.length := by
  induction l with
  | nil => rfl
  | cons c r ih =>
    rw [List.map_cons, List.map_cons, List.sum_cons, ih, sOf_len, List.length_cons]
    show 1 + r.length = r.length + 1
    omega
theorem join_size {l : List Nat} (h : l.length ≤ 100000) : ((l.map fun c => sOf [c]).map (·.length)).sum + (l.map fun c => sOf [c]).length * (Str.ofString "").length ≤ 16777216 := by
  rw [ones_sum, show (Str.ofString "").length = 0 from rfl]
  omega
theorem rep_one (n : Nat) (c : Nat) : (List.replicate n [V.str (sOf [c])]).flatten = cells (List.replicate n c) := by
  induction n with
  | zero => rfl
  | succ k ih =>
    rw [List.replicate_succ, List.flatten_cons, ih, List.replicate_succ]
    rfl

/-! ### lists and tuples of texts -/
def sV (l : List Nat) : V := .str (sOf l)
def sD (l : List Nat) : PyData := .str (sOf l)
theorem dp_rows {K : PySem.W.Frag} {H : Hp} : ∀ rows : List (List Nat), DpAll K H (rows.map sV) (rows.map sD)
  | [] => .nil
  | r :: rs => .cons (.str _) (dp_rows rs)
def Codes (l : List Nat) : Prop := ∀ c ∈ l, c < 128
theorem strOk_of {l : List Nat} (h : Codes l) : PyData.strOk (sOf l) = true := by
  unfold PyData.strOk sOf
  rw [Array.all_eq_true']
  intro c hc
  have h2 := h c (by simpa using hc)
  exact decide_eq_true (by omega)
theorem lay_rows : ∀ {rows : List (List Nat)}, (∀ r ∈ rows, Codes r) → PyData.canLayAll0 (rows.map sD) = true
  | [], _ => by simp [PyData.canLayAll0]
  | r :: rs, h => by
    have h1 : PyData.canLay0 (sD r) = true := by
      show PyData.canLay0 (.str (sOf r)) = true
      simp only [PyData.canLay0]
      exact strOk_of (h r (List.mem_cons_self ..))
    have h2 := lay_rows (rows := rs) fun x hx => h x (List.mem_cons_of_mem _ hx)
    simp only [List.map_cons, PyData.canLayAll0, h1, h2, Bool.and_true]
theorem depth_rows : ∀ rows : List (List Nat), PyData.depthAll (rows.map sD) = 0
  | [] => by simp [PyData.depthAll]
  | r :: rs => by
    have h := depth_rows rs
    simp only [List.map_cons, PyData.depthAll, h, sD, PyData.depth]
    rfl
theorem shaped_tup {rows : List (List Nat)} (h : ∀ r ∈ rows, Codes r) : SeqAt.shaped (.tuple (rows.map sD)) = true := by
  show (PyData.canLay0 (.tuple (rows.map sD)) && decide (PyData.depth (.tuple (rows.map sD)) ≤ 64)) = true
  rw [Bool.and_eq_true]
  refine ⟨by simp only [PyData.canLay0]; exact lay_rows h, decide_eq_true ?_⟩
  simp only [PyData.depth, depth_rows]
  omega
theorem shaped_lst {rows : List (List Nat)} (h : ∀ r ∈ rows, Codes r) : SeqAt.shaped (.list (rows.map sD)) = true := by
  show (PyData.canLay0 (.list (rows.map sD)) && decide (PyData.depth (.list (rows.map sD)) ≤ 64)) = true
  rw [Bool.and_eq_true]
  refine ⟨by simp only [PyData.canLay0]; exact lay_rows h, decide_eq_true ?_⟩
  simp only [PyData.depth, depth_rows]
  omega
theorem eqv_tup {rows : List (List Nat)} (h : ∀ r ∈ rows, Codes r) : PyData.eqv (.tuple (rows.map sD)) (.tuple (rows.map sD)) = true := SeqAt.eqv_refl _ (by simp only [PyData.canLay0]; exact lay_rows h)
theorem eqv_lst {rows : List (List Nat)} (h : ∀ r ∈ rows, Codes r) : PyData.eqv (.list (rows.map sD)) (.list (rows.map sD)) = true := SeqAt.eqv_refl _ (by simp only [PyData.canLay0]; exact lay_rows h)
theorem Row.codes {l : List Nat} (h : Row l) : Codes l := fun c hc => by
  rcases h c hc with e | e <;> rw [e] <;> decide
theorem same_t {K : PySem.W.Frag} {H H' : Hp} {a : Addr} {xs : List V} (e : Same H H') (h : SqT K H a xs) : SqT K H' a xs := Evl.ex_t e h
theorem cut1 (xs : List V) : cutV xs (some 1) none = xs.drop 1 := by
  unfold cutV
  rw [show HT.sIx xs.length 0 (some 1) = min 1 xs.length from HT.sIx_nat xs.length 0 1, HT.sIx_none]
  cases xs with
  | nil => rfl
  | cons x r =>
    rw [show min 1 (x :: r).length = 1 by
      rw [List.length_cons]
      omega]
    show (List.take ((x :: r).length - 1) r) = r
    rw [List.length_cons, Nat.add_sub_cancel]
    exact List.take_length
end Fp

set_option Elab.async false
set_option linter.all false
set_option maxRecDepth 100000
set_option maxHeartbeats 4000000
namespace K04
open PySem PySem.Spec PyProof.Rows L2 Fp
def topS (i : Nat) : Stmt := PySem.Challenge.pw_farpage_k04_pages_fitted.main.body.getD i (.Pass ⟨0, 0, 0, 0⟩)
abbrev s_fit_row : Stmt := topS 3
abbrev N_fit_row : List Str := ["row", "breadth", "place"]
abbrev P_fit_row : List Str := ["row", "breadth"]
theorem sc_fit_row : FnScope N_fit_row P_fit_row (defScope s_fit_row) := ⟨rfl, rfl, rfl, by decide +kernel, rfl, by decide +kernel, by decide +kernel⟩
abbrev s_narrowed_cell : Stmt := topS 4
abbrev N_narrowed_cell : List Str := ["row", "breadth", "place", "first", "behind"]
abbrev P_narrowed_cell : List Str := ["row", "breadth", "place"]
theorem sc_narrowed_cell : FnScope N_narrowed_cell P_narrowed_cell (defScope s_narrowed_cell) := ⟨rfl, rfl, rfl, by decide +kernel, rfl, by decide +kernel, by decide +kernel⟩
abbrev s_fit_page : Stmt := topS 5
abbrev N_fit_page : List Str := ["page", "breadth", "row"]
abbrev P_fit_page : List Str := ["page", "breadth"]
theorem sc_fit_page : FnScope N_fit_page P_fit_page (defScope s_fit_page) := ⟨rfl, rfl, rfl, by decide +kernel, rfl, by decide +kernel, by decide +kernel⟩
abbrev s_bag : Stmt := topS 7
abbrev N_bag : List Str := ["_law_script", "_law_at", "_law_cell", "_law_great"]
abbrev P_bag : List Str := ["_law_script", "_law_at"]
theorem sc_bag : FnScope N_bag P_bag (defScope s_bag) := ⟨rfl, rfl, rfl, by decide +kernel, rfl, by decide +kernel, by decide +kernel⟩
abbrev s_draw : Stmt := topS 8
abbrev N_draw : List Str := ["_law_bag_here", "_law_many", "_law_digit"]
abbrev P_draw : List Str := ["_law_bag_here", "_law_many"]
theorem sc_draw : FnScope N_draw P_draw (defScope s_draw) := ⟨rfl, rfl, rfl, by decide +kernel, rfl, by decide +kernel, by decide +kernel⟩
abbrev s_row : Stmt := topS 9
abbrev N_row : List Str := ["_law_bag_here", "_law_breadth", "_law_above", "_law_way", "_law_row_here", "_law_most", "_law_colour", "_law_left", "_law_place", "_law_turn"]
abbrev P_row : List Str := ["_law_bag_here", "_law_breadth", "_law_above"]
theorem sc_row : FnScope N_row P_row (defScope s_row) := ⟨rfl, rfl, rfl, by decide +kernel, rfl, by decide +kernel, by decide +kernel⟩
abbrev s_page : Stmt := topS 10
abbrev N_page : List Str := ["_law_bag_here", "_law_most_cells", "_law_most_rows", "_law_breadth", "_law_many", "_law_rows", "_law_k"]
abbrev P_page : List Str := ["_law_bag_here", "_law_most_cells", "_law_most_rows"]
theorem sc_page : FnScope N_page P_page (defScope s_page) := ⟨rfl, rfl, rfl, by decide +kernel, rfl, by decide +kernel, by decide +kernel⟩
abbrev s_fitted : Stmt := topS 11
abbrev N_fitted : List Str := ["_law_row_here", "_law_breadth", "_law_found", "_law_place", "_law_dark", "_law_begin", "_law_old"]
abbrev P_fitted : List Str := ["_law_row_here", "_law_breadth"]
theorem sc_fitted : FnScope N_fitted P_fitted (defScope s_fitted) := ⟨rfl, rfl, rfl, by decide +kernel, rfl, by decide +kernel, by decide +kernel⟩
abbrev s_law : Stmt := topS 12
abbrev N_law : List Str := ["_law_script", "_law_k", "_law_bag_here", "_law_page_here", "_law_one", "_law_other", "_law_found", "_law_due", "_law_row_here"]
abbrev P_law : List Str := ["_law_script"]
theorem sc_law : FnScope N_law P_law (defScope s_law) := ⟨rfl, rfl, rfl, by decide +kernel, rfl, by decide +kernel, by decide +kernel⟩
structure Ad where
  a_fit_row : Addr
  d_fit_row : FuncData
  a_narrowed_cell : Addr
  d_narrowed_cell : FuncData
  a_fit_page : Addr
  d_fit_page : FuncData
  a_bag : Addr
  d_bag : FuncData
  a_draw : Addr
  d_draw : FuncData
  a_row : Addr
  d_row : FuncData
  a_page : Addr
  d_page : FuncData
  a_fitted : Addr
  d_fitted : FuncData
  a_law : Addr
  d_law : FuncData
  t_DARK : Tok
  t_LIGHT : Tok
structure Txt (K : PySem.W.Frag) (mg : Str → Option Value) (A : Ad) : Prop where
  F_fit_row : Fun K "fit_row" "fit_row" s_fit_row A.a_fit_row A.d_fit_row
  b_fit_row : Binds K A.d_fit_row P_fit_row []
  g_fit_row : mg "fit_row" = some (.ref A.a_fit_row)
  F_narrowed_cell : Fun K "narrowed_cell" "narrowed_cell" s_narrowed_cell A.a_narrowed_cell A.d_narrowed_cell
  b_narrowed_cell : Binds K A.d_narrowed_cell P_narrowed_cell []
  g_narrowed_cell : mg "narrowed_cell" = some (.ref A.a_narrowed_cell)
  F_fit_page : Fun K "fit_page" "fit_page" s_fit_page A.a_fit_page A.d_fit_page
  b_fit_page : Binds K A.d_fit_page P_fit_page []
  g_fit_page : mg "fit_page" = some (.ref A.a_fit_page)
  F_bag : Fun K "_law_bag" "_law_bag" s_bag A.a_bag A.d_bag
  b_bag : Binds K A.d_bag P_bag []
  g_bag : mg "_law_bag" = some (.ref A.a_bag)
  F_draw : Fun K "_law_draw" "_law_draw" s_draw A.a_draw A.d_draw
  b_draw : Binds K A.d_draw P_draw []
  g_draw : mg "_law_draw" = some (.ref A.a_draw)
  F_row : Fun K "_law_row" "_law_row" s_row A.a_row A.d_row
  b_row : Binds K A.d_row P_row []
  g_row : mg "_law_row" = some (.ref A.a_row)
  F_page : Fun K "_law_page" "_law_page" s_page A.a_page A.d_page
  b_page : Binds K A.d_page P_page []
  g_page : mg "_law_page" = some (.ref A.a_page)
  F_fitted : Fun K "_law_fitted" "_law_fitted" s_fitted A.a_fitted A.d_fitted
  b_fitted : Binds K A.d_fitted P_fitted []
  g_fitted : mg "_law_fitted" = some (.ref A.a_fitted)
  F_law : Fun K "law" "law" s_law A.a_law A.d_law
  g_law : mg "law" = some (.ref A.a_law)
  z_abs : mg "abs" = none
  z_int : mg "int" = none
  z_isinstance : mg "isinstance" = none
  z_len : mg "len" = none
  z_list : mg "list" = none
  z_max : mg "max" = none
  z_min : mg "min" = none
  z_range : mg "range" = none
  z_tuple : mg "tuple" = none
  c_DARK : mg "DARK" = some (.str "#" A.t_DARK)
  c_LIGHT : mg "LIGHT" = some (.str "." A.t_LIGHT)
section
variable {P : Program} {w : World} {K : PySem.W.Frag} {mg : Str → Option Value} {base : Heap}
def spBag (K : PySem.W.Frag) : Sp := fun vs H Q _ => ∃ (a : Addr) (ns : List Int) (k : Int), vs = [.ref a, .int k] ∧ SqL K H a (ns.map V.int) ∧ 0 ≤ k ∧ k ≤ 1000 ∧
  ∀ p g s, H p = none → 0 ≤ g → 0 ≤ s → s < 1000000000000 → Q (.ref p) (upd H p (.lst [.int g, .int s]))
theorem ok_bag {A : Ad} (T : Txt K mg A) : FnOk P w K mg base CX0 1 A.a_bag A.d_bag P_bag (spBag K) := by
  refine T.F_bag.ok sc_bag (fun vs H Q E h => ?_) (fun cdv Ar outer s H vs Q E hr h => ?_)
  · obtain ⟨a, ns, k, rfl, _⟩ := h
    rfl
  · obtain ⟨a, ns, k, rfl, hS, k0, k1, q⟩ := h
    refine ⟨_, (pss_cons (ps_set (i := 2) sc_bag.nd rfl (Or.inl rfl) pe_int)
      (pss_cons (ps_if (pt_cmpR op_lt (pv 1) (pe_callB call_len_seq (by rfl) T.z_len PySem.boot_len (pa_cons (pv 0) pa_nil)) (nomark _))
      (pss_one (ps_set (i := 2) sc_bag.nd rfl (Or.inl rfl) (pe_ix ix_list (pv 0) (pv 1) (fun _ _ => rfl)))) pss_nil)
      (pss_cons (ps_set (i := 3) sc_bag.nd rfl (Or.inl rfl) pe_int)
      (pss_cons (ps_if (pt_cmpR op_ge (pe_callB call_abs (by rfl) T.z_abs (by decide +kernel) (pa_cons (pv 2) pa_nil)) (pe_op op_pow pe_int pe_int) (nomark _))
      (pss_one (ps_set (i := 3) sc_bag.nd rfl (Or.inl rfl) (pe_callB call_abs (by rfl) T.z_abs (by decide +kernel) (pa_cons (pv 2) pa_nil)))) pss_nil)
      (pss_one (ps_ret (pe_lst (pa_cons (pv 3) (pa_cons (pe_op op_add (pe_op op_add (pe_op op_mul (pe_op op_mod (pv 2) pe_int) pe_int) (pe_op op_mul pe_int (pv 1))) pe_int) pa_nil))))))))), ?_⟩
    have fin : ∀ (c g : Int), 0 ≤ g → tSeq (tIfS (tTest (tOp (rI0 fun i j => .bl (decide (j ≤ i))) (tCB (fun xs H Q => ∃ i, xs = [.int i] ∧ Q (.int (if i < 0 then -i else i)) H) (tCons (tVar 2) tNil)) (tOp (rI CPow fun i j => .int (i ^ j.toNat)) (tC (.int 10)) (tC (.int 18))))) (tAsg (tCB (fun xs H Q => ∃ i, xs = [.int i] ∧ Q (.int (if i < 0 then -i else i)) H) (tCons (tVar 2) tNil)) (gName 3)) tNext)
        (tRet (tLst (tCons (tVar 3) (tCons (tOp (rI0 fun i j => .int (i + j)) (tOp (rI0 fun i j => .int (i + j)) (tOp (rI CMul fun i j => .int (i * j)) (tOp (rI (fun _ j => 0 < j) fun i j => .int (i % j)) (tVar 2) (tC (.int 1000000007))) (tC (.int 7))) (tOp (rI CMul fun i j => .int (i * j)) (tC (.int 1013)) (tVar 1))) (tC (.int 5))) tNil)))) { nx := fun _ H' => Q .non H', rt := Q } [some (.ref a), some (.int k), some (.int c), some (.int g)] H := by
      intro c g g0
      have fin2 : ∀ (g : Int), 0 ≤ g → tRet (tLst (tCons (tVar 3) (tCons (tOp (rI0 fun i j => .int (i + j)) (tOp (rI0 fun i j => .int (i + j)) (tOp (rI CMul fun i j => .int (i * j)) (tOp (rI (fun _ j => 0 < j) fun i j => .int (i % j)) (tVar 2) (tC (.int 1000000007))) (tC (.int 7))) (tOp (rI CMul fun i j => .int (i * j)) (tC (.int 1013)) (tVar 1))) (tC (.int 5))) tNil))) { nx := fun _ H' => Q .non H', rt := Q } [some (.ref a), some (.int k), some (.int c), some (.int g)] H := by
        intro g g0
        have m0 := Int.emod_nonneg c (show (1000000007 : Int) ≠ 0 by decide)
        have m1 := Int.emod_lt_of_pos c (show (0 : Int) < 1000000007 by decide)
        refine ⟨_, rfl, _, rfl, _, _, rfl, rfl, (by show (0 : Int) < 1000000007; decide), _, _, rfl, rfl, .inr ⟨by decide, by decide⟩, _, rfl, _, _, rfl, rfl, .inl ⟨by decide, by decide⟩, _, _, rfl, rfl, _, _, rfl, rfl, (by show 2 ≤ sizeLine; decide), fun p hp => ?_⟩
        exact q p g _ hp g0 (by omega) (by omega)
      refine ⟨_, rfl, _, rfl, _, _, rfl, rfl, ⟨by decide, by decide, by decide⟩, _, _, rfl, rfl, _, rfl, ite2 (fun e => ?_) (fun e => ?_)⟩
      · refine ⟨_, rfl, _, rfl, fin2 _ ?_⟩
        split <;> omega
      · exact fin2 g g0
    refine ⟨_, rfl, _, rfl, _, _, rfl, .inl hS, _, _, rfl, rfl, _, rfl, ite2 (fun e => ?_) (fun e => ?_)⟩
    · have lt : k < ((ns.map V.int).length : Int) := of_decide_eq_true e
      obtain ⟨j, rfl⟩ := Int.eq_ofNat_of_zero_le k0
      have hj : j < ns.length := by
        rw [List.length_map] at lt
        omega
      have g : (ns.map V.int)[j]? = some (.int ns[j]) := by
        rw [List.getElem?_map, List.getElem?_eq_getElem hj]
        rfl
      refine ⟨_, rfl, _, rfl, _, _, _, _, rfl, rfl, hS, atI_nat g, ?_⟩
      exact fin _ 0 (Int.le_refl _)
    · exact fin 0 0 (Int.le_refl _)
def spDraw : Sp := fun vs H Q _ => ∃ (b : Addr) (m : Int), vs = [.ref b, .int m] ∧ BagAt H b ∧ 0 < m ∧ m < 1000000 ∧
  ∀ (d : Int) (H' : Hp), 0 ≤ d → d < m → Bx b H H' → Q (.int d) H'
theorem ok_draw {A : Ad} (T : Txt K mg A) : FnOk P w K mg base CX0 1 A.a_draw A.d_draw P_draw spDraw := by
  refine T.F_draw.ok sc_draw (fun vs H Q E h => ?_) (fun cdv Ar outer s H vs Q E hr h => ?_)
  · obtain ⟨b, m, rfl, _⟩ := h
    rfl
  · obtain ⟨b, m, rfl, ⟨g, s, hb, g0, s0, s1⟩, m0, m1, q⟩ := h
    refine ⟨_, (pss_cons (ps_if (pt_cmpR op_gt (pe_ix ix_list (pv 0) pe_int (fun _ _ => rfl)) pe_int (nomark _))
      (pss_cons (ps_set (i := 2) sc_draw.nd rfl (Or.inl rfl) (pe_op op_mod (pe_ix ix_list (pv 0) pe_int (fun _ _ => rfl)) (pv 1)))
      (pss_cons (ps_asg (pe_op op_fdiv (pe_ix ix_list (pv 0) pe_int (fun _ _ => rfl)) (pv 1)) (pg_sub (pv 0) pe_int set_list))
      (pss_one (ps_ret (pv 2))))) pss_nil)
      (pss_cons (ps_asg (pe_op op_mod (pe_op op_add (pe_op op_mul (pe_ix ix_list (pv 0) pe_int (fun _ _ => rfl)) pe_int) pe_int) pe_int) (pg_sub (pv 0) pe_int set_list))
      (pss_one (ps_ret (pe_op op_mod (pe_op op_mod (pe_op op_pow (pe_op op_fdiv (pe_ix ix_list (pv 0) pe_int (fun _ _ => rfl)) pe_int) pe_int) pe_int) (pv 1)))))), ?_⟩
    refine ⟨_, rfl, _, _, _, _, rfl, rfl, SqL.of hb, atI_nat (j := 0) rfl, _, _, rfl, rfl, _, rfl, ite2 (fun e => ?_) (fun e => ?_)⟩
    · refine ⟨_, rfl, _, _, _, _, rfl, rfl, SqL.of hb, atI_nat (j := 0) rfl, _, rfl, _, _, rfl, rfl, m0, ?_⟩
      refine ⟨_, rfl, _, _, _, _, rfl, rfl, SqL.of hb, atI_nat (j := 0) rfl, _, rfl, _, _, rfl, rfl, ⟨m0, by omega⟩, _, rfl, _, _, _, _, rfl, rfl, hb, Evl.ixN_nat (j := 0) (by show 0 < 2; decide), ?_⟩
      refine ⟨_, rfl, ?_⟩
      exact q _ _ (Int.emod_nonneg _ (by omega)) (Int.emod_lt_of_pos _ m0) (Bx.drawn (Int.ediv_nonneg g0 (by omega)) s0 s1)
    · have t0 := Int.emod_nonneg (s * 69621 + 1234567) (show (2147483647 : Int) ≠ 0 by decide)
      have t1 := Int.emod_lt_of_pos (s * 69621 + 1234567) (show (0 : Int) < 2147483647 by decide)
      refine ⟨_, rfl, _, _, _, _, rfl, rfl, SqL.of hb, atI_nat (j := 1) rfl, _, _, rfl, rfl, .inr ⟨by decide, by decide⟩, _, _, rfl, rfl, _, _, rfl, rfl, (by show (0 : Int) < 2147483647; decide), _, rfl, _, _, _, _, rfl, rfl, hb, Evl.ixN_nat (j := 1) (by show 1 < 2; decide), ?_⟩
      refine ⟨_, rfl, _, _, _, _, rfl, rfl, SqL.of upd_same, atI_nat (j := 1) rfl, _, _, rfl, rfl, ⟨by decide, by decide⟩, _, _, rfl, rfl, ⟨by decide, by decide, ?_⟩, _, _, rfl, rfl, (by show (0 : Int) < 998244353; decide), _, rfl, _, _, rfl, rfl, m0, ?_⟩
      · omega
      · exact q _ _ (Int.emod_nonneg _ (by omega)) (Int.emod_lt_of_pos _ m0) (Bx.drawn g0 t0 (by omega))

/-! ### the mathematics of fitting -/
def narrow (l : List Nat) (m j : Nat) : Nat := if 35 ∈ (l.drop (j * l.length / m)).take ((j + 1) * l.length / m - j * l.length / m) then 35 else 46
def fitL (l : List Nat) (m : Nat) : List Nat := if l.length ≤ m then l ++ List.replicate (m - l.length) 46 else (List.range m).map (narrow l m)
def cellF (l : List Nat) (m j : Nat) : Nat := if l.length ≤ m then (if l[j]? = some 35 then 35 else 46) else narrow l m j
theorem fitL_eq {l : List Nat} (h : Row l) (m : Nat) : (List.range m).map (cellF l m) = fitL l m := by
  unfold fitL
  by_cases c : l.length ≤ m
  · rw [if_pos c]
    apply List.ext_getElem?
    intro j
    rw [List.getElem?_map]
    by_cases hj : j < m
    · rw [List.getElem?_range hj]
      show some (cellF l m j) = _
      unfold cellF
      rw [if_pos c]
      by_cases h1 : j < l.length
      · rw [List.getElem?_append_left h1, List.getElem?_eq_getElem h1]
        rcases h l[j] (List.getElem_mem h1) with e | e <;> rw [e] <;> rfl
      · have z : l[j]? = none := List.getElem?_eq_none (by omega)
        rw [z]
        show some 46 = _
        rw [List.getElem?_append_right (by omega), List.getElem?_replicate, if_pos (by omega)]
    · rw [List.getElem?_eq_none (by rw [List.length_range]; omega), List.getElem?_eq_none (by rw [List.length_append, List.length_replicate]; omega)]
      rfl
  · rw [if_neg c]
    apply List.map_congr_left
    intro j _
    unfold cellF
    rw [if_neg c]
theorem divN (a b m : Nat) : ((a : Int) * (b : Int)) / (m : Int) = ((a * b / m : Nat) : Int) := by
  push_cast
  rfl
theorem div_le {j n m : Nat} (h : j ≤ m) (hm : 0 < m) : j * n / m ≤ n := by
  apply Nat.div_le_of_le_mul
  exact Nat.mul_le_mul_right n h
def spNarrow : Sp := fun vs H Q _ => ∃ (l : List Nat) (m j : Nat) (x y : Int), vs = [.str (sOf l), .int x, .int y] ∧ x = m ∧ y = j ∧ j < m ∧ m ≤ 1000 ∧ l.length ≤ 1000 ∧ Q (.str (sOf [narrow l m j])) H
theorem ok_narrowed_cell {A : Ad} (T : Txt K mg A) : FnOk P w K mg base CX0 1 A.a_narrowed_cell A.d_narrowed_cell P_narrowed_cell spNarrow := by
  refine T.F_narrowed_cell.ok sc_narrowed_cell (fun vs H Q E h => ?_) (fun cdv Ar outer s H vs Q E hr h => ?_)
  · obtain ⟨l, m, j, x, y, rfl, _⟩ := h
    rfl
  · obtain ⟨l, m, j, _, _, rfl, rfl, rfl, jm, m1, ll, q⟩ := h
    refine ⟨_, (pss_cons (ps_set (i := 3) sc_narrowed_cell.nd rfl (Or.inl rfl) (pe_op op_fdiv (pe_op op_mul (pv 2) (pe_callB call_len_str (by rfl) T.z_len PySem.boot_len (pa_cons (pv 0) pa_nil))) (pv 1)))
      (pss_cons (ps_set (i := 4) sc_narrowed_cell.nd rfl (Or.inl rfl) (pe_op op_fdiv (pe_op op_mul (pe_op op_add (pv 2) pe_int) (pe_callB call_len_str (by rfl) T.z_len PySem.boot_len (pa_cons (pv 0) pa_nil))) (pv 1)))
      (pss_one (ps_ret (pe_ifExp (pt_cmpR op_in_sign (pe_glob (v := .str (Str.ofString "#")) (by rfl) T.c_DARK ⟨_, rfl⟩) (pe_slice sl_str (pv 0) (po_some (pv 3)) (po_some (pv 4))) (by rfl)) (pe_glob (v := .str (Str.ofString "#")) (by rfl) T.c_DARK ⟨_, rfl⟩) (pe_glob (v := .str (Str.ofString ".")) (by rfl) T.c_LIGHT ⟨_, rfl⟩)))))), ?_⟩
    have hl : (sOf l).length ≤ sizeLine := by
      rw [sOf_len]
      exact sz (by omega)
    have e1 : (j : Int) * ((sOf l).length : Int) / (m : Int) = ((j * l.length / m : Nat) : Int) := by rw [sOf_len, divN]
    have e2 : ((j : Int) + 1) * ((sOf l).length : Int) / (m : Int) = (((j + 1) * l.length / m : Nat) : Int) := by
      rw [sOf_len, ← divN]
      push_cast
      rfl
    refine ⟨_, rfl, _, rfl, _, rfl, hl, _, _, rfl, rfl, .inl ⟨by omega, by omega⟩, _, rfl, _, _, rfl, rfl, ⟨by omega, by omega⟩, ?_⟩
    refine ⟨_, rfl, _, _, rfl, rfl, _, rfl, _, rfl, hl, _, _, rfl, rfl, .inl ⟨by omega, by omega⟩, _, rfl, _, _, rfl, rfl, ⟨by omega, by omega⟩, ?_⟩
    refine ⟨_, rfl, _, rfl, _, rfl, _, rfl, _, rfl, _, rfl, hl, 35, _, rfl, rfl, _, rfl, ?_⟩
    rw [e1, e2, cutS_nat l _ _ (div_le (by omega) (by omega)) (div_le (by omega) (by omega)), sOf_list]
    unfold narrow at q
    refine ite2 (fun e => ?_) (fun e => ?_)
    · rw [if_pos (of_decide_eq_true e)] at q
      exact q
    · rw [if_neg (fun z => e (decide_eq_true z))] at q
      exact q
def spFit : Sp := fun vs H Q _ => ∃ (l : List Nat) (m : Nat) (x : Int), vs = [.str (sOf l), .int x] ∧ x = m ∧ 1 ≤ m ∧ m ≤ 1000 ∧ l.length ≤ 1000 ∧ ∀ H', Same H H' → Q (.str (sOf (fitL l m))) H'
theorem ok_fit_row {A : Ad} (T : Txt K mg A) : FnOk P w K mg base CX0 2 A.a_fit_row A.d_fit_row P_fit_row spFit := by
  have G_narrowed_cell := ok_narrowed_cell (P := P) (w := w) (base := base) T
  refine T.F_fit_row.ok sc_fit_row (fun vs H Q E h => ?_) (fun cdv Ar outer s H vs Q E hr h => ?_)
  · obtain ⟨l, m, x, rfl, _⟩ := h
    rfl
  · obtain ⟨l, m, _, rfl, rfl, m0, m1, ll, q⟩ := h
    refine ⟨_, (pss_cons (ps_if (pt_cmpR op_le (pe_callB call_len_str (by rfl) T.z_len PySem.boot_len (pa_cons (pv 0) pa_nil)) (pv 1) (nomark _))
      (pss_one (ps_ret (pe_bm PySem.F.plainAttrs_str PySem.F.slot_str_ljust PySem.F.type_str_ljust mt_ljustF (pv 0) (pa_cons (pv 1) (pa_cons (pe_glob (v := .str (Str.ofString ".")) (by rfl) T.c_LIGHT ⟨_, rfl⟩) pa_nil))))) pss_nil)
      (pss_one (ps_ret (pe_join pe_str (pe_lc (own := [("place", 2)]) (g := gName 2) (tt := tYes) (by rfl) sc_fit_row.nd (pi_range1 (by rfl) T.z_range (pa_cons (pv 1) pa_nil)) (blkOk_by (own := [("place", 2)]) (N := N_fit_row) (sc := defScope s_fit_row) (by decide +kernel)) (fun _ _ _ _ _ => pg_name (i := 2) sc_fit_row.nd rfl (Or.inl rfl)) (fun _ _ _ _ _ => pts_nil) (fun _ _ _ _ _ => (pe_call G_narrowed_cell (hr.mono (by decide)) (by rfl) T.g_narrowed_cell T.F_narrowed_cell.kp T.b_narrowed_cell .nil pass0 (pa_cons (pv 0) (pa_cons (pv 1) (pa_cons (pv 2) pa_nil)))))))))), ?_⟩
    have hl : (sOf l).length ≤ sizeLine := by
      rw [sOf_len]
      exact sz (by omega)
    refine ⟨_, rfl, _, rfl, hl, _, rfl, _, _, rfl, rfl, _, rfl, ite2 (fun e => ?_) (fun e => ?_)⟩
    · have le : l.length ≤ m := by
        have := of_decide_eq_true e
        rw [sOf_len] at this
        omega
      refine ⟨_, rfl, rfl, _, rfl, l, _, 46, rfl, rfl, ⟨by omega, by omega⟩, ?_⟩
      have h2 := q H (Same.refl H)
      unfold fitL at h2
      rw [if_pos le] at h2
      exact h2
    · have lt : ¬ l.length ≤ m := fun z => e (decide_eq_true (by rw [sOf_len]; omega))
      refine ⟨⟨_, rfl⟩, _, rfl, _, rfl, by omega, by omega, fun D hD => lc_range (lo := 0) (n := m) (fun i H' => Same H H' ∧ H' D = some (.lst (cells ((List.range i).map (narrow l m))))) ⟨same_new hD, upd_same⟩ ?_ ?_⟩
      · rintro i H' hi ⟨sm, hD'⟩
        refine ⟨rfl, _, rfl, _, rfl, _, rfl, l, m, i, _, _, rfl, rfl, Int.zero_add _, hi, m1, ll, _, hD', ?_, Same.mut sm hD, ?_⟩
        · rw [cells_len, List.length_map, List.length_range]
          exact szl (by omega)
        · rw [upd_same, cells_app, range_more]
      · rintro H' ⟨sm, hD'⟩
        refine ⟨_, _, ((List.range m).map (narrow l m)).map fun c => sOf [c], rfl, rfl, .inl (SqL.of (by rw [← cells_strs]; exact hD')), join_size (by rw [List.length_map, List.length_range]; omega), ?_⟩
        rw [join_cells]
        have h2 := q H' sm
        unfold fitL at h2
        rw [if_neg lt] at h2
        exact h2


/-! ### what the law reckons -/
def spFitted : Sp := fun vs H Q _ => ∃ (l : List Nat) (m : Nat) (x : Int), vs = [.str (sOf l), .int x] ∧ x = m ∧ 1 ≤ m ∧ m ≤ 1000 ∧ l.length ≤ 1000 ∧ Row l ∧ Q (.str (sOf (fitL l m))) H
theorem cellF_bool (l : List Nat) (m j : Nat) : cellF l m j = cellN (if decide (cellF l m j = 35) = true then 1 else 0) := by
  have h : cellF l m j = 35 ∨ cellF l m j = 46 := by
    unfold cellF narrow
    split <;> split <;> first | exact .inl rfl | exact .inr rfl
  rcases h with e | e <;> rw [e] <;> rfl
theorem dark_more (l : List Nat) (a i : Nat) (x : Nat) (h : l[a + i]? = some x) : decide (35 ∈ (l.drop a).take (i + 1)) = (decide (35 ∈ (l.drop a).take i) || decide (x = 35)) := by
  rw [take_more (l.drop a) i x (by rw [List.getElem?_drop]; exact h)]
  simp [List.mem_append, eq_comm]
theorem ok_fitted {A : Ad} (T : Txt K mg A) : FnOk P w K mg base CX0 1 A.a_fitted A.d_fitted P_fitted spFitted := by
  refine T.F_fitted.ok sc_fitted (fun vs H Q E h => ?_) (fun cdv Ar outer s H vs Q E hr h => ?_)
  · obtain ⟨l, m, x, rfl, _⟩ := h
    rfl
  · obtain ⟨l, m, _, rfl, rfl, m0, m1, ll, rw0, q⟩ := h
    refine ⟨_, (pss_cons (ps_set (i := 2) sc_fitted.nd rfl (Or.inl rfl) pe_str)
      (pss_cons (ps_for PassesOwn.never rfl (pi_range1 (by rfl) T.z_range (pa_cons (pv 1) pa_nil)) (pg_name (i := 3) sc_fitted.nd rfl (Or.inl rfl))
      (pss_cons (ps_set (i := 4) sc_fitted.nd rfl (Or.inl rfl) pe_bl)
      (Evl.pss_cut (ps_if (pt_cmpR op_le (pe_callB call_len_str (by rfl) T.z_len PySem.boot_len (pa_cons (pv 0) pa_nil)) (pv 1) (nomark _))
      (pss_one (ps_set (i := 4) sc_fitted.nd rfl (Or.inl rfl) (pe_and (pe_cmpR op_lt (pv 3) (pe_callB call_len_str (by rfl) T.z_len PySem.boot_len (pa_cons (pv 0) pa_nil)) (nomark _)) (pe_one (pe_cmpR op_eq (pe_ix ix_str (pv 0) (pv 3) (fun _ _ => rfl)) pe_str (nomark _)))))) (pss_cons (ps_set (i := 5) sc_fitted.nd rfl (Or.inl rfl) (pe_op op_fdiv (pe_op op_mul (pv 3) (pe_callB call_len_str (by rfl) T.z_len PySem.boot_len (pa_cons (pv 0) pa_nil))) (pv 1)))
      (pss_one (ps_for PassesOwn.never rfl (pi_range2 (by rfl) T.z_range (pa_cons (pv 5) (pa_cons (pe_op op_fdiv (pe_op op_mul (pe_op op_add (pv 3) pe_int) (pe_callB call_len_str (by rfl) T.z_len PySem.boot_len (pa_cons (pv 0) pa_nil))) (pv 1)) pa_nil))) (pg_name (i := 6) sc_fitted.nd rfl (Or.inl rfl))
      (pss_one (ps_set (i := 4) sc_fitted.nd rfl (Or.inl rfl) (pe_or (pv 4) (pe_one (pe_cmpR op_eq (pe_ix ix_str (pv 0) (pv 6) (fun _ _ => rfl)) pe_str (nomark _))))))))))
      (pss_one (ps_set (i := 2) sc_fitted.nd rfl (Or.inl rfl) (pe_op op_add_str (pv 2) (pe_ix ix_str pe_str (pe_callTy call_int1 (by rfl) T.z_int (by decide +kernel) (pa_cons (pv 4) pa_nil)) (fun _ _ => rfl))))))))
      (pss_one (ps_ret (pv 2))))), ?_⟩
    have hl : (sOf l).length ≤ sizeLine := by
      rw [sOf_len]
      exact sz (by omega)
    refine ⟨_, rfl, _, rfl, by omega, by omega, for_range (lo := 0) (n := m) (fun i σ H' => ∃ y3 y4 y5 y6, σ = [some (.str (sOf l)), some (.int (m : Int)), some (.str (sOf ((List.range i).map (cellF l m)))), y3, y4, y5, y6] ∧ H' = H) ⟨none, none, none, none, rfl, rfl⟩ ?_ ?_⟩
    · rintro i σ H' hi ⟨y3, y4, y5, y6, rfl, rfl⟩
      refine ⟨fun σ H2 => ∃ y5 y6, σ = [some (.str (sOf l)), some (.int (m : Int)), some (.str (sOf ((List.range i).map (cellF l m)))), some (.int (0 + (i : Int))), some (.bl (decide (cellF l m i = 35))), y5, y6] ∧ H2 = H', ?_, ?_⟩
      · refine ⟨_, rfl, _, rfl, hl, _, rfl, _, _, rfl, rfl, _, rfl, ite2 (fun e => ?_) (fun e => ?_)⟩
        · have le : l.length ≤ m := by
            have := of_decide_eq_true e
            rw [sOf_len] at this
            omega
          have ec : decide (cellF l m i = 35) = decide (l[i]? = some 35) := by
            unfold cellF
            rw [if_pos le]
            split <;> simp_all
          refine ⟨_, rfl, _, rfl, _, rfl, hl, _, _, rfl, rfl, _, rfl, ite2 (fun e2 => ?_) (fun e2 => ?_)⟩
          · have lt : i < l.length := by
              have := of_decide_eq_true e2
              rw [sOf_len] at this
              omega
            refine ⟨_, rfl, _, rfl, _, _, l[i], rfl, rfl, hl, ?_, rfl, y5, y6, ?_, rfl⟩
            · rw [sOf_list, Int.zero_add]
              exact atI_nat (List.getElem?_eq_getElem lt)
            · rw [ec, List.getElem?_eq_getElem lt]
              have e3 : decide (V.str ⟨#[l[i]]⟩ = V.str (Str.ofString "#")) = decide (some l[i] = some 35) := by
                apply decide_eq_decide.mpr
                constructor
                · intro h
                  have h2 : sOf [l[i]] = sOf [35] := V.str.inj h
                  have := sOf_inj h2
                  simp_all
                · intro h
                  rw [Option.some.inj h]
                  rfl
              rw [← e3]
              rfl
          · have ge : ¬ i < l.length := fun z => e2 (decide_eq_true (by rw [sOf_len]; omega))
            refine ⟨y5, y6, ?_, rfl⟩
            rw [ec, List.getElem?_eq_none (by omega)]
            rfl
        · have lt : ¬ l.length ≤ m := fun z => e (decide_eq_true (by rw [sOf_len]; omega))
          have ha : i * l.length / m ≤ l.length := div_le (by omega) (by omega)
          have hb : (i + 1) * l.length / m ≤ l.length := div_le (by omega) (by omega)
          have e1 : (0 + (i : Int)) * ((sOf l).length : Int) / (m : Int) = ((i * l.length / m : Nat) : Int) := by rw [sOf_len, Int.zero_add, divN]
          have e2 : (0 + (i : Int) + 1) * ((sOf l).length : Int) / (m : Int) = (((i + 1) * l.length / m : Nat) : Int) := by
            rw [sOf_len, ← divN, Int.zero_add]
            push_cast
            rfl
          generalize hA : i * l.length / m = a at *
          generalize hB : (i + 1) * l.length / m = b at *
          refine ⟨_, rfl, _, rfl, _, rfl, hl, _, _, rfl, rfl, .inl ⟨by omega, by omega⟩, _, rfl, _, _, rfl, rfl, ⟨by omega, by omega⟩, ?_⟩
          refine ⟨_, rfl, _, rfl, _, _, rfl, rfl, _, rfl, _, rfl, hl, _, _, rfl, rfl, .inl ⟨by omega, by omega⟩, _, rfl, _, _, rfl, rfl, ⟨by omega, by omega⟩, _, _, rfl, ?_, ?_⟩
          · rw [e1, e2]
            omega
          · rw [e1, e2]
            refine for_range (lo := (a : Int)) (n := ((b : Int) - (a : Int)).toNat) (fun k σ H2 => ∃ y5 y6, σ = [some (.str (sOf l)), some (.int (m : Int)), some (.str (sOf ((List.range i).map (cellF l m)))), some (.int (0 + (i : Int))), some (.bl (decide (35 ∈ (l.drop a).take k))), y5, y6] ∧ H2 = H') ⟨_, _, rfl, rfl⟩ ?_ ?_
            · rintro k σ H2 hk ⟨y5, y6, rfl, rfl⟩
              have lk : a + k < l.length := by omega
              refine ⟨_, rfl, _, rfl, ite2 (fun e3 => ?_) (fun e3 => ?_)⟩
              · refine ⟨y5, some (.int ((a : Int) + (k : Int))), ?_, rfl⟩
                rw [dark_more l a k l[a + k] (List.getElem?_eq_getElem lk), e3]
                rfl
              · refine ⟨_, rfl, _, rfl, _, _, l[a + k], rfl, rfl, hl, ?_, rfl, y5, some (.int ((a : Int) + (k : Int))), ?_, rfl⟩
                · rw [sOf_list, show ((a : Int) + (k : Int)) = ((a + k : Nat) : Int) by push_cast; rfl]
                  exact atI_nat (List.getElem?_eq_getElem lk)
                · rw [dark_more l a k l[a + k] (List.getElem?_eq_getElem lk)]
                  have e4 : decide (35 ∈ (l.drop a).take k) = false := by simpa using e3
                  have e5 : decide (V.str ⟨#[l[a + k]]⟩ = V.str (Str.ofString "#")) = decide (l[a + k] = 35) := by
                    apply decide_eq_decide.mpr
                    constructor
                    · intro h
                      have h2 : sOf [l[a + k]] = sOf [35] := V.str.inj h
                      have := sOf_inj h2
                      simp_all
                    · intro h
                      rw [h]
                      rfl
                  rw [e4, Bool.false_or, ← e5]
                  rfl
            · rintro σ H2 ⟨y5, y6, rfl, rfl⟩
              refine ⟨y5, y6, ?_, rfl⟩
              have ec : decide (cellF l m i = 35) = decide (35 ∈ (l.drop a).take ((b : Int) - (a : Int)).toNat) := by
                unfold cellF narrow
                rw [if_neg lt, hA, hB, show ((b : Int) - (a : Int)).toNat = b - a by omega]
                split <;> simp_all
              rw [ec]
      · rintro σ H2 ⟨y5, y6, rfl, rfl⟩
        refine ⟨_, rfl, _, rfl, .inr ⟨_, rfl, _, _, _, rfl, rfl, two_len, cell_at (by split <;> decide) (by split <;> decide), _, _, rfl, rfl, ?_, ?_⟩⟩
        · show (sOf _).length + (sOf [_]).length ≤ sizeLine
          rw [sOf_len, sOf_len, List.length_map, List.length_range]
          exact sz (by show i + 1 ≤ 100000; omega)
        · refine ⟨some (.int (0 + (i : Int))), some (.bl (decide (cellF l m i = 35))), y5, y6, ?_, rfl⟩
          have e7 : sOf [cellF l m i] = ⟨#[cellN (if decide (cellF l m i = 35) = true then 1 else 0)]⟩ := congrArg (fun c => sOf [c]) (cellF_bool l m i)
          rw [range_more, ← sOf_app, e7]
          rfl
    · rintro σ H' ⟨y3, y4, y5, y6, rfl, rfl⟩
      refine ⟨_, rfl, ?_⟩
      rw [fitL_eq rw0]
      exact q


/-! ### a row is drawn -/
def RM (b : Addr) (m : Nat) (up : List Nat) (way : Int) (H : Hp) : L2.St → Hp → Prop := fun σ H' => ∃ (p : Addr) (l : List Nat) (y5 y6 y7 y8 y9 : Option V), σ = [some (.ref b), some (.int (m : Int)), some (.str (sOf up)), some (.int way), some (.ref p), y5, y6, y7, y8, y9] ∧ H' p = some (.lst (cells l)) ∧ H p = none ∧ l.length = m ∧ Row l ∧ Bx b H H'
def spRow : Sp := fun vs H Q _ => ∃ (b : Addr) (m : Nat) (up : List Nat) (x : Int), vs = [.ref b, .int x, .str (sOf up)] ∧ x = m ∧ BagAt H b ∧ 1 ≤ m ∧ m ≤ 1000 ∧ up.length = m ∧ Row up ∧ ∀ l H', l.length = m → Row l → Bx b H H' → Q (.str (sOf l)) H'
theorem ok_row {A : Ad} (T : Txt K mg A) : FnOk P w K mg base CX0 2 A.a_row A.d_row P_row spRow := by
  have G_draw := ok_draw (P := P) (w := w) (base := base) T
  refine T.F_row.ok sc_row (fun vs H Q E h => ?_) (fun cdv Ar outer s H vs Q E hr h => ?_)
  · obtain ⟨b, m, up, x, rfl, _⟩ := h
    rfl
  · obtain ⟨b, m, up, _, rfl, rfl, hb, m0, m1, lu, ru, q⟩ := h
    refine ⟨_, (pss_cons (ps_set (i := 3) sc_row.nd rfl (Or.inl rfl) (pe_call G_draw (hr.mono (by decide)) (by rfl) T.g_draw T.F_draw.kp T.b_draw .nil pass0 (pa_cons (pv 0) (pa_cons pe_int pa_nil))))
      (pss_cons (ps_set (i := 4) sc_row.nd rfl (Or.inl rfl) (pe_op op_rep (pe_lst (pa_cons (pe_ix ix_str pe_str (pe_call G_draw (hr.mono (by decide)) (by rfl) T.g_draw T.F_draw.kp T.b_draw .nil pass0 (pa_cons (pv 0) (pa_cons pe_int pa_nil))) (fun _ _ => rfl)) pa_nil)) (pv 1)))
      (Evl.pss_cut (ps_if (pt_cmpR op_eq (pv 3) pe_int (nomark _))
      (pss_one (ps_setLc (i := 4) (own := [("_law_place", 8)]) (g := gName 8) (tt := tYes) (by rfl) sc_row.nd rfl rfl (sw_true rfl rfl rfl (by decide +kernel)) (pi_range1 (by rfl) T.z_range (pa_cons (pv 1) pa_nil)) (blkOk_by (own := [("_law_place", 8)]) (N := N_row) (sc := defScope s_row) (by decide +kernel)) (fun _ _ _ _ _ => pg_name (i := 8) sc_row.nd rfl (Or.inl rfl)) (fun _ _ _ _ _ => pts_nil) (fun _ _ _ _ _ => (pe_ix ix_str pe_str (pe_call G_draw (hr.mono (by decide)) (by rfl) T.g_draw T.F_draw.kp T.b_draw .nil pass0 (pa_cons (pv 0) (pa_cons pe_int pa_nil))) (fun _ _ => rfl))))) pss_nil)
      (Evl.pss_cut (ps_if (pt_cmpR op_eq (pv 3) pe_int (nomark _))
      (pss_cons (ps_set (i := 5) sc_row.nd rfl (Or.inl rfl) (pe_op op_add pe_int (pe_call G_draw (hr.mono (by decide)) (by rfl) T.g_draw T.F_draw.kp T.b_draw .nil pass0 (pa_cons (pv 0) (pa_cons (pv 1) pa_nil)))))
      (pss_cons (ps_set (i := 6) sc_row.nd rfl (Or.inl rfl) (pe_call G_draw (hr.mono (by decide)) (by rfl) T.g_draw T.F_draw.kp T.b_draw .nil pass0 (pa_cons (pv 0) (pa_cons pe_int pa_nil))))
      (pss_cons (ps_set (i := 7) sc_row.nd rfl (Or.inl rfl) pe_int)
      (pss_one (ps_for PassesOwn.never rfl (pi_range1 (by rfl) T.z_range (pa_cons (pv 1) pa_nil)) (pg_name (i := 8) sc_row.nd rfl (Or.inl rfl))
      (Evl.pss_cut (ps_if (pt_cmpR op_eq (pv 7) pe_int (nomark _))
      (pss_cons (ps_set (i := 6) sc_row.nd rfl (Or.inl rfl) (pe_op op_sub pe_int (pv 6)))
      (pss_one (ps_set (i := 7) sc_row.nd rfl (Or.inl rfl) (pe_op op_add pe_int (pe_call G_draw (hr.mono (by decide)) (by rfl) T.g_draw T.F_draw.kp T.b_draw .nil pass0 (pa_cons (pv 0) (pa_cons (pv 5) pa_nil))))))) pss_nil)
      (pss_cons (ps_asg (pe_ix ix_str pe_str (pv 6) (fun _ _ => rfl)) (pg_sub (pv 4) (pv 8) set_list))
      (pss_one (ps_set (i := 7) sc_row.nd rfl (Or.inl rfl) (pe_op op_sub (pv 7) pe_int)))))))))) pss_nil)
      (Evl.pss_cut (ps_if (pt_cmpR op_eq (pv 3) pe_int (nomark _))
      (pss_cons (ps_set (i := 4) sc_row.nd rfl (Or.inl rfl) (pe_callTy (call_list_str rfl) (by rfl) T.z_list (by decide +kernel) (pa_cons (pv 2) pa_nil)))
      (pss_one (ps_for PassesOwn.never rfl (pi_range1 (by rfl) T.z_range (pa_cons pe_int pa_nil)) (pg_name (i := 9) sc_row.nd rfl (Or.inl rfl))
      (pss_one (ps_asg (pe_ix ix_str pe_str (pe_call G_draw (hr.mono (by decide)) (by rfl) T.g_draw T.F_draw.kp T.b_draw .nil pass0 (pa_cons (pv 0) (pa_cons pe_int pa_nil))) (fun _ _ => rfl)) (pg_sub (pv 4) (pe_call G_draw (hr.mono (by decide)) (by rfl) T.g_draw T.F_draw.kp T.b_draw .nil pass0 (pa_cons (pv 0) (pa_cons (pv 1) pa_nil))) set_list)))))) pss_nil)
      (pss_one (ps_ret (pe_join pe_str (pv 4))))))))), ?_⟩
    -- way, row_here
    refine ⟨_, rfl, b, 4, rfl, hb, by decide, by decide, fun way H1 w0 w1 bx1 => ?_⟩
    refine ⟨_, rfl, b, 2, rfl, bx1.1, by decide, by decide, fun d H2 d0 d1 bx2 => ⟨_, _, _, rfl, rfl, two_len, cell_at d0 d1, (by show 1 ≤ sizeLine; decide), fun p1 hp1 => ⟨_, rfl, _, _, _, rfl, rfl, upd_same, by omega, by omega, ?_, fun p hp => ?_⟩⟩⟩
    · show 1 * (m : Int).toNat ≤ sizeLine
      exact sz (by omega)
    have bx3 : Bx b H (upd H2 p1 (.lst [.str ⟨#[cellN d]⟩])) := (bx1.trans bx2).same (same_new hp1)
    have R0 : RM b m up way H [some (.ref b), some (.int (m : Int)), some (.str (sOf up)), some (.int way), some (.ref p), none, none, none, none, none] (upd (upd H2 p1 (.lst [.str ⟨#[cellN d]⟩])) p (.lst (List.replicate (m : Int).toNat [V.str ⟨#[cellN d]⟩]).flatten)) := by
      refine ⟨p, List.replicate m (cellN d), none, none, none, none, none, rfl, ?_, bx3.free hp, List.length_replicate, Row.rep (cellN_cell d), bx3.same (same_new hp)⟩
      rw [upd_same]
      exact congrArg (fun z => some (HO.lst z)) (rep_one m (cellN d))
    refine ⟨RM b m up way H, ?_, ?_⟩
    · -- way 0
      refine ⟨_, rfl, rfl, _, rfl, ite2 (fun e => ?_) (fun e => R0)⟩
      obtain ⟨_, _, _, _, _, _, _, _, _, _, _, _, bx4⟩ := R0
      refine ⟨_, rfl, _, rfl, by omega, by omega, fun D hD => lc_range (lo := 0) (n := m) (fun i H' => ∃ l, H' D = some (.lst (cells l)) ∧ l.length = i ∧ Row l ∧ Bx b H H') ⟨[], upd_same, rfl, Row.nil, bx4.same (same_new hD)⟩ ?_ ?_⟩
      · rintro i H' hi ⟨l, hl, ll, rl, bx5⟩
        have nD : D ≠ b := BagAt.ne bx4.1 hD
        have fD : H D = none := bx4.free hD
        refine ⟨rfl, _, rfl, b, 2, rfl, bx5.1, by decide, by decide, fun d2 H5 e0 e1 bx6 => ⟨_, _, _, rfl, rfl, two_len, cell_at e0 e1, _, bx6.2 _ _ nD hl, ?_, l ++ [cellN d2], ?_, ?_, rl.app (cellN_cell d2), (bx5.trans bx6).mut fD nD⟩⟩
        · rw [cells_len]
          exact szl (by omega)
        · rw [upd_same]
          exact congrArg (fun z => some (HO.lst z)) (cells_app l (cellN d2))
        · rw [List.length_append, ll]
          rfl
      · rintro H' ⟨l, hl, ll, rl, bx5⟩
        exact ⟨D, l, _, _, _, _, _, rfl, hl, bx4.free hD, ll, rl, bx5⟩
    · rintro σ H3 ⟨p, l, y5, y6, y7, y8, y9, rfl, hp, fp, ll, rl, bx⟩
      refine ⟨RM b m up way H, ?_, ?_⟩
      · -- way 1
        refine ⟨_, rfl, rfl, _, rfl, ite2 (fun e => ?_) (fun e => ⟨p, l, y5, y6, y7, y8, y9, rfl, hp, fp, ll, rl, bx⟩)⟩
        have nP : p ≠ b := BagAt.ne hb fp
        refine ⟨_, rfl, _, rfl, b, _, rfl, bx.1, by omega, by omega, fun most H4 o0 o1 bx4 => ⟨_, _, rfl, rfl, ?_⟩⟩
        refine ⟨_, rfl, b, 2, rfl, bx4.1, by decide, by decide, fun col H5 c0 c1 bx5 => ?_⟩
        refine ⟨_, rfl, _, rfl, by omega, by omega, for_range (lo := 0) (n := m) (fun i σ H' => ∃ (l : List Nat) (c left : Int) (y8 : Option V), σ = [some (.ref b), some (.int (m : Int)), some (.str (sOf up)), some (.int way), some (.ref p), some (.int (1 + most)), some (.int c), some (.int left), y8, y9] ∧ 0 ≤ c ∧ c < 2 ∧ H' p = some (.lst (cells l)) ∧ l.length = m ∧ Row l ∧ Bx b H H')
          ⟨l, col, 0, y8, rfl, c0, c1, bx5.2 _ _ nP (bx4.2 _ _ nP hp), ll, rl, (bx.trans bx4).trans bx5⟩ ?_ ?_⟩
        · rintro i σ H' hi ⟨l, c, left, y8, rfl, c0, c1, hp, ll, rl, bx⟩
          refine ⟨fun σ H' => ∃ (c left : Int) (y8 : Option V), σ = [some (.ref b), some (.int (m : Int)), some (.str (sOf up)), some (.int way), some (.ref p), some (.int (1 + most)), some (.int c), some (.int left), some (.int (0 + (i : Int))), y9] ∧ 0 ≤ c ∧ c < 2 ∧ H' p = some (.lst (cells l)) ∧ Bx b H H', ?_, ?_⟩
          · refine ⟨_, rfl, rfl, _, rfl, ite2 (fun e => ?_) (fun e => ⟨c, left, y8, rfl, c0, c1, hp, bx⟩)⟩
            refine ⟨_, rfl, _, _, rfl, rfl, ?_⟩
            refine ⟨_, rfl, _, rfl, b, _, rfl, bx.1, by omega, by omega, fun d H6 e0 e1 bx6 => ⟨_, _, rfl, rfl, ?_⟩⟩
            exact ⟨1 - c, 1 + d, y8, rfl, by omega, by omega, bx6.2 _ _ nP hp, bx.trans bx6⟩
          · rintro σ H' ⟨c, left, _, rfl, c0, c1, hp, bx⟩
            refine ⟨_, rfl, _, _, _, rfl, rfl, two_len, cell_at c0 c1, _, rfl, _, rfl, _, _, _, _, rfl, rfl, hp, (by rw [Int.zero_add]; exact Evl.ixN_nat (by rw [cells_len]; omega)), ?_⟩
            refine ⟨_, rfl, _, _, rfl, rfl, ?_⟩
            refine ⟨l.set i (cellN c), c, left - 1, some (.int (0 + (i : Int))), rfl, c0, c1, ?_, ?_, rl.set (cellN_cell c), bx.mut fp nP⟩
            · rw [upd_same]
              exact congrArg (fun z => some (HO.lst z)) (cells_set l i (cellN c))
            · rw [List.length_set]
              exact ll
        · rintro σ H' ⟨l, c, left, y8, rfl, c0, c1, hp, ll, rl, bx⟩
          exact ⟨p, l, _, _, _, _, _, rfl, hp, fp, ll, rl, bx⟩
      · rintro σ H3 ⟨p, l, y5, y6, y7, y8, y9, rfl, hp, fp, ll, rl, bx⟩
        refine ⟨RM b m up way H, ?_, ?_⟩
        · -- way 2
          refine ⟨_, rfl, rfl, _, rfl, ite2 (fun e => ?_) (fun e => ⟨p, l, y5, y6, y7, y8, y9, rfl, hp, fp, ll, rl, bx⟩)⟩
          refine ⟨_, rfl, up, rfl, by omega, fun p2 hp2 => ?_⟩
          have f2 : H p2 = none := bx.free hp2
          have n2 : p2 ≠ b := BagAt.ne bx.1 hp2
          refine ⟨_, rfl, by decide, by decide, for_range (lo := 0) (n := 3) (fun i σ H' => ∃ (l : List Nat) (y9 : Option V), σ = [some (.ref b), some (.int (m : Int)), some (.str (sOf up)), some (.int way), some (.ref p2), y5, y6, y7, y8, y9] ∧ H' p2 = some (.lst (cells l)) ∧ l.length = m ∧ Row l ∧ Bx b H H')
            ⟨up, y9, rfl, upd_same, lu, ru, bx.same (same_new hp2)⟩ ?_ ?_⟩
          · rintro i σ H' hi ⟨l, y9, rfl, hp, ll, rl, bx⟩
            refine ⟨_, rfl, b, 2, rfl, bx.1, by decide, by decide, fun d H5 d0 d1 bx5 => ⟨_, _, _, rfl, rfl, two_len, cell_at d0 d1, _, rfl, _, rfl, _, rfl, b, _, rfl, bx5.1, by omega, by omega, fun j H6 j0 j1 bx6 => ?_⟩⟩
            obtain ⟨k, rfl⟩ := Int.eq_ofNat_of_zero_le j0
            refine ⟨_, _, _, k, rfl, rfl, bx6.2 _ _ n2 (bx5.2 _ _ n2 hp), Evl.ixN_nat (by rw [cells_len]; omega), ?_⟩
            refine ⟨l.set k (cellN d), _, rfl, ?_, ?_, rl.set (cellN_cell d), ((bx.trans bx5).trans bx6).mut f2 n2⟩
            · rw [upd_same]
              exact congrArg (fun z => some (HO.lst z)) (cells_set l k (cellN d))
            · rw [List.length_set]
              exact ll
          · rintro σ H' ⟨l, y9, rfl, hp, ll, rl, bx⟩
            exact ⟨p2, l, _, _, _, _, _, rfl, hp, f2, ll, rl, bx⟩
        · rintro σ H3 ⟨p, l, y5, y6, y7, y8, y9, rfl, hp, fp, ll, rl, bx⟩
          refine ⟨⟨_, rfl⟩, _, rfl, _, _, l.map fun c => sOf [c], rfl, rfl, .inl (SqL.of (by rw [← cells_strs]; exact hp)), join_size (by omega), ?_⟩
          rw [join_cells]
          exact q l H3 ll rl bx

/-! ### a page is drawn -/
def Good (n : Nat) (rows : List (List Nat)) : Prop := ∀ r ∈ rows, r.length = n ∧ Row r
theorem Good.app {n : Nat} {rows : List (List Nat)} {l : List Nat} (h : Good n rows) (ll : l.length = n) (rl : Row l) : Good n (rows ++ [l]) := fun r hr => by
  rcases List.mem_append.mp hr with e | e
  · exact h r e
  · rw [List.mem_singleton.mp e]
    exact ⟨ll, rl⟩
def spPage : Sp := fun vs H Q _ => ∃ (b : Addr) (mc mr : Nat), vs = [.ref b, .int mc, .int mr] ∧ BagAt H b ∧ 8 ≤ mc ∧ mc ≤ 64 ∧ 1 ≤ mr ∧ mr ≤ 24 ∧
  ∀ (p : Addr) (rows : List (List Nat)) (n : Nat) (H' : Hp), 8 ≤ n → n ≤ mc → 1 ≤ rows.length → rows.length ≤ mr → Good n rows → H p = none → H' p = some (.tup (rows.map sV)) → Bx b H H' → Q (.ref p) H'
theorem last_of {α : Type} {xs : List α} {n : Nat} (h : xs.length = n + 1) : ∃ ys y, xs = ys ++ [y] := by
  have h0 : xs ≠ [] := fun e => by
    rw [e] at h
    cases h
  exact ⟨xs.dropLast, xs.getLast h0, (List.dropLast_concat_getLast h0).symm⟩
theorem ok_page {A : Ad} (T : Txt K mg A) : FnOk P w K mg base CX0 3 A.a_page A.d_page P_page spPage := by
  have G_draw := ok_draw (P := P) (w := w) (base := base) T
  have G_row := ok_row (P := P) (w := w) (base := base) T
  refine T.F_page.ok sc_page (fun vs H Q E h => ?_) (fun cdv Ar outer s H vs Q E hr h => ?_)
  · obtain ⟨b, mc, mr, rfl, _⟩ := h
    rfl
  · obtain ⟨b, mc, mr, rfl, hb, c0, c1, r0, r1, q⟩ := h
    refine ⟨_, (pss_cons (ps_set (i := 3) sc_page.nd rfl (Or.inl rfl) (pe_op op_add pe_int (pe_call G_draw (hr.mono (by decide)) (by rfl) T.g_draw T.F_draw.kp T.b_draw .nil pass0 (pa_cons (pv 0) (pa_cons (pe_op op_sub (pv 1) pe_int) pa_nil)))))
      (pss_cons (ps_set (i := 4) sc_page.nd rfl (Or.inl rfl) (pe_op op_add pe_int (pe_call G_draw (hr.mono (by decide)) (by rfl) T.g_draw T.F_draw.kp T.b_draw .nil pass0 (pa_cons (pv 0) (pa_cons (pv 2) pa_nil)))))
      (Evl.pss_cut (ps_if (pt_cmpR op_eq (pe_call G_draw (hr.mono (by decide)) (by rfl) T.g_draw T.F_draw.kp T.b_draw .nil pass0 (pa_cons (pv 0) (pa_cons pe_int pa_nil))) pe_int (nomark _))
      (pss_one (ps_par (i := 3) (j := 4) (by rfl) sc_page.nd rfl rfl (by decide) rfl rfl (pa_cons (pv 1) (pa_cons (pv 2) pa_nil)) (by rfl))) pss_nil)
      (pss_cons (ps_set (i := 5) sc_page.nd rfl (Or.inl rfl) (pe_lst (pa_cons (pe_op op_mul_str pe_str (pv 3)) pa_nil)))
      (Evl.pss_cut (ps_for PassesOwn.never rfl (pi_range1 (by rfl) T.z_range (pa_cons (pv 4) pa_nil)) (pg_name (i := 6) sc_page.nd rfl (Or.inl rfl))
      (pss_one (ps_expr (pe_bm PySem.F.plainAttrs_list PySem.F.slot_list_append PySem.F.type_list_append mt_append (pv 5) (pa_cons (pe_call G_row (hr.mono (by decide)) (by rfl) T.g_row T.F_row.kp T.b_row .nil pass0 (pa_cons (pv 0) (pa_cons (pv 3) (pa_cons (pe_ix ix_list (pv 5) (pe_un un_neg pe_int) (fun _ _ => rfl)) pa_nil)))) pa_nil)))))
      (pss_one (ps_ret (pe_callTy call_tuple_of (by rfl) T.z_tuple (by decide +kernel) (pa_cons (pe_slice sl_list (pv 5) (po_some pe_int) po_none) pa_nil))))))))), ?_⟩
    refine ⟨_, rfl, _, rfl, _, _, rfl, rfl, b, _, rfl, hb, by omega, by omega, fun d1 H1 a0 a1 bx1 => ⟨_, _, rfl, rfl, ?_⟩⟩
    refine ⟨_, rfl, _, rfl, b, _, rfl, bx1.1, by omega, by omega, fun d2 H2 e0 e1 bx2 => ⟨_, _, rfl, rfl, ?_⟩⟩
    refine ⟨fun σ H' => ∃ (n many : Nat), σ = [some (.ref b), some (.int mc), some (.int mr), some (.int n), some (.int many), none, none] ∧ 8 ≤ n ∧ n ≤ mc ∧ 1 ≤ many ∧ many ≤ mr ∧ Bx b H H', ?_, ?_⟩
    · refine ⟨_, rfl, b, 8, rfl, bx2.1, by decide, by decide, fun d3 H3 f0 f1 bx3 => ⟨rfl, _, rfl, ite2 (fun e => ?_) (fun e => ?_)⟩⟩
      · exact ⟨_, rfl, _, rfl, _, _, rfl, mc, mr, rfl, c0, Nat.le_refl _, r0, Nat.le_refl _, (bx1.trans bx2).trans bx3⟩
      · obtain ⟨n, en⟩ := Int.eq_ofNat_of_zero_le (show 0 ≤ 8 + d1 by omega)
        obtain ⟨m, em⟩ := Int.eq_ofNat_of_zero_le (show 0 ≤ 1 + d2 by omega)
        exact ⟨n, m, by rw [← en, ← em]; rfl, by omega, by omega, by omega, by omega, (bx1.trans bx2).trans bx3⟩
    · rintro σ H4 ⟨n, many, rfl, n0, n1, m0, m1, bx4⟩
      refine ⟨_, rfl, 46, _, rfl, rfl, ⟨by omega, by omega⟩, (by show 1 ≤ sizeLine; decide), fun p hp => ?_⟩
      have fp : H p = none := bx4.free hp
      have np : p ≠ b := BagAt.ne bx4.1 hp
      refine ⟨fun σ H' => ∃ (rows : List (List Nat)) (y6 : Option V), σ = [some (.ref b), some (.int mc), some (.int mr), some (.int n), some (.int many), some (.ref p), y6] ∧ H' p = some (.lst (rows.map sV)) ∧ rows.length = many + 1 ∧ Good n rows ∧ Bx b H H', ?_, ?_⟩
      · refine ⟨_, rfl, _, rfl, by omega, by omega, for_range (lo := 0) (n := many) (fun i σ H' => ∃ (rows : List (List Nat)) (y6 : Option V), σ = [some (.ref b), some (.int mc), some (.int mr), some (.int n), some (.int many), some (.ref p), y6] ∧ H' p = some (.lst (rows.map sV)) ∧ rows.length = i + 1 ∧ Good n rows ∧ Bx b H H')
          ⟨[List.replicate n 46], none, rfl, upd_same, rfl, fun r hr => by rw [List.mem_singleton.mp hr]; exact ⟨List.length_replicate, Row.rep (.inl rfl)⟩, bx4.same (same_new hp)⟩ ?_ (fun σ H' h => h)⟩
        rintro i σ H5 hi ⟨rows, y6, rfl, h5, lr, gr, bx5⟩
        obtain ⟨ys, y, rfl⟩ := last_of lr
        have gy := gr y (List.mem_append.mpr (.inr (List.mem_singleton.mpr rfl)))
        refine ⟨_, rfl, .inl ⟨rfl, _, SqL.of h5⟩, _, rfl, _, rfl, _, rfl, 1, rfl, _, _, _, sV y, rfl, rfl, SqL.of h5, ?_, b, n, y, _, rfl, rfl, bx5.1, by omega, by omega, gy.1, gy.2, fun l H6 ll rl bx6 => ?_⟩
        · rw [List.map_append]
          exact atI_last _ _
        · refine ⟨_, _, _, rfl, rfl, bx6.2 _ _ np h5, ?_, ys ++ [y] ++ [l], _, rfl, ?_, ?_, gr.app ll rl, (bx5.trans bx6).mut fp np⟩
          · rw [List.length_map, lr]
            exact szl (by omega)
          · rw [upd_same, List.map_append (l₂ := [l])]
            rfl
          · rw [List.length_append, lr]
            rfl
      · rintro σ H5 ⟨rows, y6, rfl, h5, lr, gr, bx5⟩
        refine ⟨_, rfl, 1, rfl, _, _, rfl, SqL.of h5, fun c hc => ⟨_, _, rfl, .inl ⟨SqL.of upd_same, fun t ht => ?_⟩⟩⟩
        have s6 : Same H5 (upd H5 c (.lst (cutV (rows.map sV) (some 1) none))) := same_new hc
        have bx6 := (bx5.same s6).same (same_new (o := .tup (cutV (rows.map sV) (some 1) none)) ht)
        refine q t (rows.drop 1) n _ n0 n1 ?_ ?_ (fun r hr => gr r (List.mem_of_mem_drop hr)) ((bx5.same s6).free ht) ?_ bx6
        · rw [List.length_drop]
          omega
        · rw [List.length_drop]
          omega
        · rw [upd_same, cut1, List.map_drop]

def spFitPage (K : PySem.W.Frag) : Sp := fun vs H Q _ => ∃ (a : Addr) (rows : List (List Nat)) (m : Nat) (x : Int), vs = [.ref a, .int x] ∧ x = m ∧ SqT K H a (rows.map sV) ∧ 1 ≤ m ∧ m ≤ 1000 ∧ rows.length ≤ 1000 ∧ (∀ r ∈ rows, r.length ≤ 1000) ∧
  ∀ p H', H p = none → Same H H' → H' p = some (.tup ((rows.map fun r => fitL r m).map sV)) → Q (.ref p) H'
theorem take_map {α β : Type} (f : α → β) (l : List α) (i : Nat) (x : α) (h : l[i]? = some x) : (l.take (i + 1)).map f = (l.take i).map f ++ [f x] := by
  rw [take_more l i x h, List.map_append]
  rfl
theorem ok_fit_page {A : Ad} (T : Txt K mg A) : FnOk P w K mg base CX0 3 A.a_fit_page A.d_fit_page P_fit_page (spFitPage K) := by
  have G_fit_row := ok_fit_row (P := P) (w := w) (base := base) T
  refine T.F_fit_page.ok sc_fit_page (fun vs H Q E h => ?_) (fun cdv Ar outer s H vs Q E hr h => ?_)
  · obtain ⟨a, rows, m, x, rfl, _⟩ := h
    rfl
  · obtain ⟨a, rows, m, _, rfl, rfl, hT, m0, m1, lr, lc, q⟩ := h
    refine ⟨_, (pss_one (ps_ret (pe_callTy call_tuple_of (by rfl) T.z_tuple (by decide +kernel) (pa_cons (pe_lc (own := [("row", 2)]) (g := gName 2) (tt := tYes) (by rfl) sc_fit_page.nd (pi_tup (pv 0)) (blkOk_by (own := [("row", 2)]) (N := N_fit_page) (sc := defScope s_fit_page) (by decide +kernel)) (fun _ _ _ _ _ => pg_name (i := 2) sc_fit_page.nd rfl (Or.inl rfl)) (fun _ _ _ _ _ => pts_nil) (fun _ _ _ _ _ => (pe_call G_fit_row (hr.mono (by decide)) (by rfl) T.g_fit_row T.F_fit_row.kp T.b_fit_row .nil pass0 (pa_cons (pv 2) (pa_cons (pv 1) pa_nil))))) pa_nil)))), ?_⟩
    refine ⟨_, rfl, a, rfl, ⟨_, hT⟩, fun D hD => lc_tup (K := K) (a := a) (xs := rows.map sV) (fun i H' => Same H H' ∧ H' D = some (.lst (((rows.take i).map fun r => fitL r m).map sV))) ⟨same_new hD, upd_same⟩ (fun i H' _ ⟨sm, _⟩ => same_t sm hT) ?_ ?_⟩
    · rintro i x H' hx ⟨sm, hD'⟩
      rw [List.getElem?_map] at hx
      cases hr : rows[i]? with
      | none =>
        rw [hr] at hx
        cases hx
      | some r =>
        rw [hr] at hx
        cases hx
        have hi : i < rows.length := (List.getElem?_eq_some_iff.mp hr).1
        refine ⟨rfl, _, rfl, _, rfl, r, m, _, rfl, rfl, m0, m1, lc r (List.mem_of_getElem? hr), fun H2 s2 => ⟨_, s2 _ _ hD', ?_, Same.mut (sm.trans s2) hD, ?_⟩⟩
        · rw [List.length_map, List.length_map, List.length_take]
          exact szl (by omega)
        · rw [upd_same, take_map _ rows i r hr, List.map_append]
          rfl
    · rintro H' ⟨sm, hD'⟩
      rw [List.length_map, List.take_length] at hD'
      refine ⟨_, _, rfl, .inl ⟨SqL.of hD', fun t ht => ?_⟩⟩
      exact q t _ (sm.free ht) (sm.trans (same_new ht)) upd_same
def FitPv (H : Hp) (D : Addr) (rows : List (List Nat)) (m i : Nat) (H' : Hp) : Prop := Same H H' ∧ H' D = some (.lst (((rows.take i).map fun r => fitL r m).map sV))
theorem turn_fit {σ : L2.St} {H : Hp} {k : Nat} {D : Addr} {rows : List (List Nat)} {m : Nat} {x : Int} (ex : x = m) (hσ : σ.length = 9) (hk : σ[k]? = some (some (.int x))) (nk : k ≠ 8) (hD : H D = none)
    (m0 : 1 ≤ m) (m1 : m ≤ 1000) (lr : rows.length ≤ 1000) (hg : ∀ r ∈ rows, r.length ≤ 1000 ∧ Row r) : ∀ i x H', (rows.map sV)[i]? = some x → FitPv H D rows m i H' → gName 8 x (wipe σ [8]) H' fun σ2 H2 => wipe σ2 [8] = wipe σ [8] ∧ tYes σ2 H2 fun b H3 =>
      if b = true then tCall spFitted [] E0 (tCons (tVar 8) (tCons (tVar k) tNil)) σ2 H3 fun y H4 => ∃ acc, H4 D = some (.lst acc) ∧ acc.length < sizeLine ∧ FitPv H D rows m (i + 1) (upd H4 D (.lst (acc ++ [y]))) else FitPv H D rows m (i + 1) H3 := by
  subst ex
  rintro i x H' hx ⟨sm, hD'⟩
  rw [List.getElem?_map] at hx
  cases hr : rows[i]? with
  | none =>
    rw [hr] at hx
    cases hx
  | some r =>
    rw [hr] at hx
    cases hx
    have hi : i < rows.length := (List.getElem?_eq_some_iff.mp hr).1
    have gr := hg r (List.mem_of_getElem? hr)
    have e1 : (List.set (wipe σ [8]) 8 (some (sV r)))[8]? = some (some (sV r)) := List.getElem?_set_self (by show 8 < (List.set σ 8 none).length; rw [List.length_set, hσ]; decide)
    have e2 : (List.set (wipe σ [8]) 8 (some (sV r)))[k]? = some (some (.int (m : Int))) := by
      show (List.set (List.set σ 8 none) 8 (some (sV r)))[k]? = _
      rw [List.getElem?_set_ne (Ne.symm nk), List.getElem?_set_ne (Ne.symm nk)]
      exact hk
    have e3 : wipe (List.set (wipe σ [8]) 8 (some (sV r))) [8] = wipe σ [8] := by
      show List.set (List.set (List.set σ 8 none) 8 (some (sV r))) 8 none = List.set σ 8 none
      rw [List.set_set, List.set_set]
    refine ⟨e3, _, e1, _, e2, r, m, _, rfl, rfl, m0, m1, gr.1, gr.2, _, hD', ?_, Same.mut sm hD, ?_⟩
    · rw [List.length_map, List.length_map, List.length_take]
      exact szl (by omega)
    · rw [upd_same, take_map _ rows i r hr, List.map_append]
      rfl
theorem FitPv.end {H H' : Hp} {D : Addr} {rows : List (List Nat)} {m : Nat} (h : FitPv H D rows m (rows.map sV).length H') : Same H H' ∧ H' D = some (.lst ((rows.map fun r => fitL r m).map sV)) := by
  obtain ⟨sm, hD'⟩ := h
  rw [List.length_map, List.take_length] at hD'
  exact ⟨sm, hD'⟩
theorem fitL_row {l : List Nat} (h : Row l) (m : Nat) : Row (fitL l m) ∧ (1 ≤ m → (fitL l m).length = m ∨ (fitL l m).length = l.length) := by
  unfold fitL
  split
  · refine ⟨fun c hc => ?_, fun _ => .inl ?_⟩
    · rcases List.mem_append.mp hc with e | e
      · exact h c e
      · rw [(List.mem_replicate.mp e).2]
        exact .inl rfl
    · rw [List.length_append, List.length_replicate]
      omega
  · refine ⟨fun c hc => ?_, fun _ => .inl ?_⟩
    · obtain ⟨j, _, rfl⟩ := List.mem_map.mp hc
      unfold narrow
      split
      · exact .inr rfl
      · exact .inl rfl
    · rw [List.length_map, List.length_range]
theorem fitL_len (l : List Nat) (m : Nat) : (fitL l m).length = m := by
  unfold fitL
  split
  · rw [List.length_append, List.length_replicate]
    omega
  · rw [List.length_map, List.length_range]
theorem fitL_own (l : List Nat) : fitL l l.length = l := by
  unfold fitL
  rw [if_pos (Nat.le_refl _), Nat.sub_self]
  exact List.append_nil l
theorem fits {n m : Nat} {rows : List (List Nat)} (h : Good n rows) (hm : m ≤ 1000) : ∀ r ∈ rows.map (fun r => fitL r m), r.length ≤ 1000 ∧ Row r := fun r hr => by
  obtain ⟨x, hx, rfl⟩ := List.mem_map.mp hr
  exact ⟨by rw [fitL_len]; exact hm, (fitL_row (h x hx).2 m).1⟩
theorem fits2 {m : Nat} {rows : List (List Nat)} (h : ∀ r ∈ rows, r.length ≤ 1000 ∧ Row r) (hm : m ≤ 1000) : ∀ r ∈ rows.map (fun r => fitL r m), r.length ≤ 1000 ∧ Row r := fun r hr => by
  obtain ⟨x, hx, rfl⟩ := List.mem_map.mp hr
  exact ⟨by rw [fitL_len]; exact hm, (fitL_row (h x hx).2 m).1⟩
/-! ### the law -/
def spLaw (K : PySem.W.Frag) : Sp := fun vs H Q _ => ∃ (a : Addr) (ns : List Int), vs = [.ref a] ∧ SqL K H a (ns.map V.int) ∧ ns.length ≤ 63 ∧ ∀ H', Q (.bl true) H'
theorem ok_law {A : Ad} (T : Txt K mg A) : FnOk P w K mg base CX0 4 A.a_law A.d_law P_law (spLaw K) := by
  have G_bag := ok_bag (P := P) (w := w) (base := base) T
  have G_page := ok_page (P := P) (w := w) (base := base) T
  have G_fit_page := ok_fit_page (P := P) (w := w) (base := base) T
  have G_draw := ok_draw (P := P) (w := w) (base := base) T
  have G_fitted := ok_fitted (P := P) (w := w) (base := base) T
  refine T.F_law.ok sc_law (fun vs H Q E h => ?_) (fun cdv Ar outer s H vs Q E hr h => ?_)
  · obtain ⟨a, ns, rfl, _⟩ := h
    rfl
  · obtain ⟨a, ns, rfl, hS, ln, q⟩ := h
    refine ⟨_, (pss_cons (ps_for PassesOwn.never rfl (pi_range1 (by rfl) T.z_range (pa_cons (pe_callB (call_max2 rfl) (by rfl) T.z_max (by decide +kernel) (pa_cons pe_int (pa_cons (pe_callB (call_min2 rfl) (by rfl) T.z_min (by decide +kernel) (pa_cons pe_int (pa_cons (pe_callB call_len_seq (by rfl) T.z_len PySem.boot_len (pa_cons (pv 0) pa_nil)) pa_nil))) pa_nil))) pa_nil)) (pg_name (i := 1) sc_law.nd rfl (Or.inl rfl))
      (pss_cons (ps_set (i := 2) sc_law.nd rfl (Or.inl rfl) (pe_call G_bag (hr.mono (by decide)) (by rfl) T.g_bag T.F_bag.kp T.b_bag .nil pass0 (pa_cons (pv 0) (pa_cons (pv 1) pa_nil))))
      (pss_cons (ps_set (i := 3) sc_law.nd rfl (Or.inl rfl) (pe_call G_page (hr.mono (by decide)) (by rfl) T.g_page T.F_page.kp T.b_page .nil pass0 (pa_cons (pv 2) (pa_cons pe_int (pa_cons pe_int pa_nil)))))
      (pss_cons (ps_asg (pe_tup (pa_cons (pe_op op_add pe_int (pe_call G_draw (hr.mono (by decide)) (by rfl) T.g_draw T.F_draw.kp T.b_draw .nil pass0 (pa_cons (pv 2) (pa_cons pe_int pa_nil)))) (pa_cons (pe_op op_add pe_int (pe_call G_draw (hr.mono (by decide)) (by rfl) T.g_draw T.F_draw.kp T.b_draw .nil pass0 (pa_cons (pv 2) (pa_cons pe_int pa_nil)))) pa_nil))) (pg_tup (by rfl) (pgs_cons (pg_name (i := 4) sc_law.nd rfl (by first | exact Or.inl rfl | exact Or.inr rfl)) (pgs_cons (pg_name (i := 5) sc_law.nd rfl (by first | exact Or.inl rfl | exact Or.inr rfl)) pgs_nil))))
      (pss_cons (ps_set (i := 6) sc_law.nd rfl (Or.inl rfl) (pe_call G_fit_page (hr.mono (by decide)) (by rfl) T.g_fit_page T.F_fit_page.kp T.b_fit_page .nil pass0 (pa_cons (pv 3) (pa_cons (pv 4) pa_nil))))
      (pss_cons (ps_set (i := 7) sc_law.nd rfl (Or.inl rfl) (pe_callTy call_tuple_of (by rfl) T.z_tuple (by decide +kernel) (pa_cons (pe_lc (own := [("_law_row_here", 8)]) (g := gName 8) (tt := tYes) (by rfl) sc_law.nd (pi_tup (pv 3)) (blkOk_by (own := [("_law_row_here", 8)]) (N := N_law) (sc := defScope s_law) (by decide +kernel)) (fun _ _ _ _ _ => pg_name (i := 8) sc_law.nd rfl (Or.inl rfl)) (fun _ _ _ _ _ => pts_nil) (fun _ _ _ _ _ => (pe_call G_fitted (hr.mono (by decide)) (by rfl) T.g_fitted T.F_fitted.kp T.b_fitted .nil pass0 (pa_cons (pv 8) (pa_cons (pv 4) pa_nil))))) pa_nil)))
      (pss_cons (ps_if (PW.pt (pw_or (pt_not (pt_val (pe_callB call_isi (by rfl) T.z_isinstance (by decide +kernel) (pa_cons (pv 6) (pa_cons (pe_bltn (v := .ty "tuple") (by rfl) T.z_tuple (by decide +kernel) rfl) pa_nil))))) (pw_or (pt_cmpR (op_neD hr.units) (pv 6) (pv 7) (nomark _)) (pw_or1 (pt_cmpR (op_neD hr.units) (pe_call G_fit_page (hr.mono (by decide)) (by rfl) T.g_fit_page T.F_fit_page.kp T.b_fit_page .nil pass0 (pa_cons (pv 3) (pa_cons (pe_callB call_len_str (by rfl) T.z_len PySem.boot_len (pa_cons (pe_ix ix_tup (pv 3) pe_int (fun _ _ => rfl)) pa_nil)) pa_nil))) (pv 3) (nomark _))))))
      (pss_one (ps_ret pe_bl)) pss_nil)
      (pss_cons (ps_if (pt_cmpR (op_neD hr.units) (pe_call G_fit_page (hr.mono (by decide)) (by rfl) T.g_fit_page T.F_fit_page.kp T.b_fit_page .nil pass0 (pa_cons (pv 6) (pa_cons (pv 5) pa_nil))) (pe_callTy call_tuple_of (by rfl) T.z_tuple (by decide +kernel) (pa_cons (pe_lc (own := [("_law_row_here", 8)]) (g := gName 8) (tt := tYes) (by rfl) sc_law.nd (pi_tup (pv 7)) (blkOk_by (own := [("_law_row_here", 8)]) (N := N_law) (sc := defScope s_law) (by decide +kernel)) (fun _ _ _ _ _ => pg_name (i := 8) sc_law.nd rfl (Or.inl rfl)) (fun _ _ _ _ _ => pts_nil) (fun _ _ _ _ _ => (pe_call G_fitted (hr.mono (by decide)) (by rfl) T.g_fitted T.F_fitted.kp T.b_fitted .nil pass0 (pa_cons (pv 8) (pa_cons (pv 5) pa_nil))))) pa_nil)) (nomark _))
      (pss_one (ps_ret pe_bl)) pss_nil)
      (pss_cons (ps_if (pt_cmpR (op_neD hr.units) (pe_call G_fit_page (hr.mono (by decide)) (by rfl) T.g_fit_page T.F_fit_page.kp T.b_fit_page .nil pass0 (pa_cons (pv 3) (pa_cons (pv 5) pa_nil))) (pe_callTy call_tuple_of (by rfl) T.z_tuple (by decide +kernel) (pa_cons (pe_lc (own := [("_law_row_here", 8)]) (g := gName 8) (tt := tYes) (by rfl) sc_law.nd (pi_tup (pv 3)) (blkOk_by (own := [("_law_row_here", 8)]) (N := N_law) (sc := defScope s_law) (by decide +kernel)) (fun _ _ _ _ _ => pg_name (i := 8) sc_law.nd rfl (Or.inl rfl)) (fun _ _ _ _ _ => pts_nil) (fun _ _ _ _ _ => (pe_call G_fitted (hr.mono (by decide)) (by rfl) T.g_fitted T.F_fitted.kp T.b_fitted .nil pass0 (pa_cons (pv 8) (pa_cons (pv 5) pa_nil))))) pa_nil)) (nomark _))
      (pss_one (ps_ret pe_bl)) pss_nil)
      (pss_one (ps_if (pt_cmpR (op_neD hr.units) (pe_call G_fit_page (hr.mono (by decide)) (by rfl) T.g_fit_page T.F_fit_page.kp T.b_fit_page .nil pass0 (pa_cons (pv 3) (pa_cons (pv 4) pa_nil))) (pv 7) (nomark _))
      (pss_one (ps_ret pe_bl)) pss_nil)))))))))))
      (pss_one (ps_ret pe_bl))), ?_⟩
    refine ⟨_, rfl, _, _, rfl, .inl hS, _, _, rfl, _, _, rfl, _, rfl, ?_, ?_, for_range (fun i σ H' => ∃ y1 y2 y3 y4 y5 y6 y7 y8, σ = [some (.ref a), y1, y2, y3, y4, y5, y6, y7, y8] ∧ Same H H') ⟨none, none, none, none, none, none, none, none, rfl, Same.refl H⟩ ?_ ?_⟩
    · rw [List.length_map]
      split <;> split <;> omega
    · rw [List.length_map]
      split <;> split <;> omega
    · rintro i σ H1 hi ⟨y1, y2, y3, y4, y5, y6, y7, y8, rfl, sm⟩
      have hi8 : i < 8 := by
        rw [List.length_map] at hi
        revert hi
        split <;> split <;> omega
      refine ⟨_, rfl, _, rfl, a, ns, _, rfl, sm.seq hS, by omega, by omega, fun b g s hb g0 s0 s1 => ?_⟩
      have B0 : BagAt (upd H1 b (.lst [.int g, .int s])) b := BagAt.new g0 s0 s1
      refine ⟨_, rfl, b, 64, 24, rfl, B0, by decide, by decide, by decide, by decide, fun p rows n H2 n0 n1 r0 r1 gr fp hp bx1 => ?_⟩
      have np : p ≠ b := fun e => by
        rw [e, upd_same] at fp
        cases fp
      refine ⟨_, rfl, b, 57, rfl, bx1.1, by decide, by decide, fun d1 H3 a0 a1 bx2 => ⟨_, _, rfl, rfl, _, rfl, b, 57, rfl, bx2.1, by decide, by decide, fun d2 H4 c0 c1 bx3 => ⟨_, _, rfl, rfl, (by show 2 ≤ sizeLine; decide), fun t ht => ?_⟩⟩⟩
      refine ⟨t, _, rfl, .inl (.inl upd_same), rfl, _, _, rfl, _, _, rfl, rfl, ?_⟩
      obtain ⟨o, eo⟩ := Int.eq_ofNat_of_zero_le (show 0 ≤ 8 + d1 by omega)
      obtain ⟨u, eu⟩ := Int.eq_ofNat_of_zero_le (show 0 ≤ 8 + d2 by omega)
      have sm5 := fun (z : HO) => (sm.trans (((bx1.trans bx2).trans bx3).back (same_new hb) hb)).trans (same_new (o := z) ht)
      have hp5 := fun (z : HO) => same_new (o := z) ht _ _ (bx3.2 _ _ np (bx2.2 _ _ np hp))
      have G : ∀ r ∈ rows, r.length ≤ 1000 ∧ Row r := fun r hr => ⟨by rw [(gr r hr).1]; omega, (gr r hr).2⟩
      have C : ∀ {rs : List (List Nat)}, (∀ r ∈ rs, r.length ≤ 1000 ∧ Row r) → ∀ r ∈ rs, Codes r := fun h r hr => (h r hr).2.codes
      have O1 : 1 ≤ o ∧ o ≤ 1000 := by omega
      have U1 : 1 ≤ u ∧ u ≤ 1000 := by omega
      have GO := fits2 G O1.2
      have GU := fits2 G U1.2
      have GOU := fits2 GO U1.2
      have L1 : rows.length ≤ 1000 := by omega
      have L2' : (rows.map fun r => fitL r o).length ≤ 1000 := by rw [List.length_map]; exact L1
      -- found
      refine ⟨_, rfl, _, rfl, p, rows, o, _, rfl, eo, .inl (.inl (hp5 _)), O1.1, O1.2, L1, fun r hr => (G r hr).1, fun f H6 hf s6 ef => ?_⟩
      -- due
      refine ⟨_, rfl, p, rfl, ⟨_, (.inl (.inl (s6 _ _ (hp5 _))))⟩, fun D hD => lc_tup (K := K) (a := p) (xs := (rows).map sV) (FitPv _ D (rows) _) ⟨same_new hD, upd_same⟩ (fun i H' _ z => same_t z.1 (.inl (.inl (s6 _ _ (hp5 _))))) (turn_fit (k := 4) eo rfl rfl (by decide) hD O1.1 O1.2 L1 G) (fun H7 zz => ?_)⟩
      obtain ⟨s7, eD⟩ := zz.end
      refine ⟨_, _, rfl, .inl ⟨SqL.of eD, fun du hdu => ?_⟩⟩
      have s8 := s7.trans (same_new (o := .tup ((rows.map fun r => fitL r o).map sV)) hdu)
      have ef8 := s8 _ _ ef
      have ep8 := s8 _ _ (s6 _ _ (hp5 _))
      refine ⟨_, rfl, _, _, _, _, true, rfl, ClsV.ty _, TyX.base (TyOf.tup ef8), kit_ty (by decide +kernel), _, rfl, ?_⟩
      refine ⟨_, rfl, _, rfl, _, _, .tup (.inl (.inl ef8)) (dp_rows _), .tup (.inl (.inl upd_same)) (dp_rows _), shaped_tup (C GO), shaped_tup (C GO), _, rfl, ?_⟩
      rw [eqv_tup (C GO)]
      obtain ⟨z, zs, rfl⟩ : ∃ z zs, rows = z :: zs := by
        cases rows with
        | nil => exact absurd r0 (by decide)
        | cons z zs => exact ⟨z, zs, rfl⟩
      have lz : z.length = n := (gr z (List.mem_cons_self ..)).1
      have own : ((z :: zs).map fun r => fitL r n) = z :: zs := by
        have e : ∀ r ∈ z :: zs, fitL r n = r := fun r hr => by
          rw [← (gr r hr).1]
          exact fitL_own r
        rw [List.map_congr_left e, List.map_id']
      refine ⟨_, rfl, _, rfl, _, _, _, sV z, rfl, rfl, .inl (.inl ep8), atI_nat (j := 0) rfl, _, rfl, by rw [sOf_len]; exact sz (by omega), p, z :: zs, n, _, rfl, by rw [sOf_len, lz], .inl (.inl ep8), by omega, by omega, L1, fun r hr => (G r hr).1, fun f2 H9 hf2 s9 ef2 => ?_⟩
      rw [own] at ef2
      refine ⟨_, rfl, _, _, .tup (.inl (.inl ef2)) (dp_rows _), .tup (.inl (.inl (s9 _ _ ep8))) (dp_rows _), shaped_tup (C G), shaped_tup (C G), _, rfl, ?_⟩
      rw [eqv_tup (C G)]
      -- found fitted to other
      refine ⟨_, rfl, _, rfl, f, _, u, _, rfl, eu, .inl (.inl (s9 _ _ ef8)), U1.1, U1.2, L2', fun r hr => (GO r hr).1, fun f3 H10 hf3 s10 ef3 => ?_⟩
      refine ⟨_, rfl, du, rfl, ⟨_, (.inl (.inl (s10 _ _ (s9 _ _ upd_same))))⟩, fun D2 hD2 => lc_tup (K := K) (a := du) (xs := ((z :: zs).map fun r => fitL r o).map sV) (FitPv _ D2 ((z :: zs).map fun r => fitL r o) _) ⟨same_new hD2, upd_same⟩ (fun i H' _ z => same_t z.1 (.inl (.inl (s10 _ _ (s9 _ _ upd_same))))) (turn_fit (k := 5) eu rfl rfl (by decide) hD2 U1.1 U1.2 L2' GO) (fun H11 zz => ?_)⟩
      obtain ⟨s11, eD2⟩ := zz.end
      refine ⟨_, _, rfl, .inl ⟨SqL.of eD2, fun t2 ht2 => ?_⟩⟩
      have s12 := s11.trans (same_new (o := .tup ((((z :: zs).map fun r => fitL r o).map fun r => fitL r u).map sV)) ht2)
      refine ⟨_, _, .tup (.inl (.inl (s12 _ _ ef3))) (dp_rows _), .tup (.inl (.inl upd_same)) (dp_rows _), shaped_tup (C GOU), shaped_tup (C GOU), _, rfl, ?_⟩
      rw [eqv_tup (C GOU)]
      have ep12 := s12 _ _ (s10 _ _ (s9 _ _ ep8))
      have ed12 := s12 _ _ (s10 _ _ (s9 _ _ (upd_same (H := H7) (a := du) (o := .tup (((z :: zs).map fun r => fitL r o).map sV)))))
      -- the page fitted to other
      refine ⟨_, rfl, _, rfl, p, _, u, _, rfl, eu, .inl (.inl ep12), U1.1, U1.2, L1, fun r hr => (G r hr).1, fun f4 H13 hf4 s13 ef4 => ?_⟩
      refine ⟨_, rfl, p, rfl, ⟨_, (.inl (.inl (s13 _ _ ep12)))⟩, fun D3 hD3 => lc_tup (K := K) (a := p) (xs := (z :: zs).map sV) (FitPv _ D3 (z :: zs) _) ⟨same_new hD3, upd_same⟩ (fun i H' _ z => same_t z.1 (.inl (.inl (s13 _ _ ep12)))) (turn_fit (k := 5) eu rfl rfl (by decide) hD3 U1.1 U1.2 L1 G) (fun H14 zz => ?_)⟩
      obtain ⟨s14, eD3⟩ := zz.end
      refine ⟨_, _, rfl, .inl ⟨SqL.of eD3, fun t3 ht3 => ?_⟩⟩
      have s15 := s14.trans (same_new (o := .tup (((z :: zs).map fun r => fitL r u).map sV)) ht3)
      refine ⟨_, _, .tup (.inl (.inl (s15 _ _ ef4))) (dp_rows _), .tup (.inl (.inl upd_same)) (dp_rows _), shaped_tup (C GU), shaped_tup (C GU), _, rfl, ?_⟩
      rw [eqv_tup (C GU)]
      have ep15 := s15 _ _ (s13 _ _ ep12)
      have ed15 := s15 _ _ (s13 _ _ ed12)
      -- the same again
      refine ⟨_, rfl, _, rfl, p, _, o, _, rfl, eo, .inl (.inl ep15), O1.1, O1.2, L1, fun r hr => (G r hr).1, fun f5 H16 hf5 s16 ef5 => ?_⟩
      refine ⟨_, rfl, _, _, .tup (.inl (.inl ef5)) (dp_rows _), .tup (.inl (.inl (s16 _ _ ed15))) (dp_rows _), shaped_tup (C GO), shaped_tup (C GO), _, rfl, ?_⟩
      rw [eqv_tup (C GO)]
      exact ⟨_, _, _, _, _, _, _, _, rfl, ((((((sm5 _).trans s6).trans s8).trans s9).trans s10).trans s12).trans ((s13.trans s15).trans s16)⟩
    · rintro σ H1 ⟨y1, y2, y3, y4, y5, y6, y7, y8, rfl, sm⟩
      exact q _
end
theorem all_mk {l : PySem.W.OpenLaw} {w : World} {K : PySem.W.Frag} {h : Heap} {mg : Str → Option Value} {fa : Addr} (X : K.In h) (G : h.Ns mainGlobals mg) (hfa : mg "law" = some (.ref fa))
    {f0 f1 f2 f3 f4 f5 f6 f7 f8 : Addr}
    {od0 an0 od1 an1 od2 an2 od3 an3 od4 an4 od5 an5 od6 an6 od7 an7 od8 an8 : Option Addr}
    {sl0 sl1 sl2 sl3 sl4 sl5 sl6 sl7 sl8 : Array (Option Value)}
    {oc0 kV0 dc0 pm0 cd0 ct0 oc1 kV1 dc1 pm1 cd1 ct1 oc2 kV2 dc2 pm2 cd2 ct2 oc3 kV3 dc3 pm3 cd3 ct3 oc4 kV4 dc4 pm4 cd4 ct4 oc5 kV5 dc5 pm5 cd5 ct5 oc6 kV6 dc6 pm6 cd6 ct6 oc7 kV7 dc7 pm7 cd7 ct7 oc8 kV8 dc8 pm8 cd8 ct8 : Value}
    {t_DARK : Tok}
    {t_LIGHT : Tok}
    (a0 : PySem.W.nsIn K mainGlobals "fit_row" = some (some (.ref f0))) (l0 : K.lookup f0 = some ⟨oc0, od0, .func (PySem.W.fnOf "fit_row" "fit_row" (defArgs s_fit_row) (defBody s_fit_row) (defScope s_fit_row) .none kV0 dc0 pm0 an0 cd0 ct0), sl0⟩) (c0 : PySem.W.codeIn K cd0 "fit_row" = true) (k0 : PySem.W.keepIn K (.ref f0) = true)
    (a1 : PySem.W.nsIn K mainGlobals "narrowed_cell" = some (some (.ref f1))) (l1 : K.lookup f1 = some ⟨oc1, od1, .func (PySem.W.fnOf "narrowed_cell" "narrowed_cell" (defArgs s_narrowed_cell) (defBody s_narrowed_cell) (defScope s_narrowed_cell) .none kV1 dc1 pm1 an1 cd1 ct1), sl1⟩) (c1 : PySem.W.codeIn K cd1 "narrowed_cell" = true) (k1 : PySem.W.keepIn K (.ref f1) = true)
    (a2 : PySem.W.nsIn K mainGlobals "fit_page" = some (some (.ref f2))) (l2 : K.lookup f2 = some ⟨oc2, od2, .func (PySem.W.fnOf "fit_page" "fit_page" (defArgs s_fit_page) (defBody s_fit_page) (defScope s_fit_page) .none kV2 dc2 pm2 an2 cd2 ct2), sl2⟩) (c2 : PySem.W.codeIn K cd2 "fit_page" = true) (k2 : PySem.W.keepIn K (.ref f2) = true)
    (a3 : PySem.W.nsIn K mainGlobals "_law_bag" = some (some (.ref f3))) (l3 : K.lookup f3 = some ⟨oc3, od3, .func (PySem.W.fnOf "_law_bag" "_law_bag" (defArgs s_bag) (defBody s_bag) (defScope s_bag) .none kV3 dc3 pm3 an3 cd3 ct3), sl3⟩) (c3 : PySem.W.codeIn K cd3 "_law_bag" = true) (k3 : PySem.W.keepIn K (.ref f3) = true)
    (a4 : PySem.W.nsIn K mainGlobals "_law_draw" = some (some (.ref f4))) (l4 : K.lookup f4 = some ⟨oc4, od4, .func (PySem.W.fnOf "_law_draw" "_law_draw" (defArgs s_draw) (defBody s_draw) (defScope s_draw) .none kV4 dc4 pm4 an4 cd4 ct4), sl4⟩) (c4 : PySem.W.codeIn K cd4 "_law_draw" = true) (k4 : PySem.W.keepIn K (.ref f4) = true)
    (a5 : PySem.W.nsIn K mainGlobals "_law_row" = some (some (.ref f5))) (l5 : K.lookup f5 = some ⟨oc5, od5, .func (PySem.W.fnOf "_law_row" "_law_row" (defArgs s_row) (defBody s_row) (defScope s_row) .none kV5 dc5 pm5 an5 cd5 ct5), sl5⟩) (c5 : PySem.W.codeIn K cd5 "_law_row" = true) (k5 : PySem.W.keepIn K (.ref f5) = true)
    (a6 : PySem.W.nsIn K mainGlobals "_law_page" = some (some (.ref f6))) (l6 : K.lookup f6 = some ⟨oc6, od6, .func (PySem.W.fnOf "_law_page" "_law_page" (defArgs s_page) (defBody s_page) (defScope s_page) .none kV6 dc6 pm6 an6 cd6 ct6), sl6⟩) (c6 : PySem.W.codeIn K cd6 "_law_page" = true) (k6 : PySem.W.keepIn K (.ref f6) = true)
    (a7 : PySem.W.nsIn K mainGlobals "_law_fitted" = some (some (.ref f7))) (l7 : K.lookup f7 = some ⟨oc7, od7, .func (PySem.W.fnOf "_law_fitted" "_law_fitted" (defArgs s_fitted) (defBody s_fitted) (defScope s_fitted) .none kV7 dc7 pm7 an7 cd7 ct7), sl7⟩) (c7 : PySem.W.codeIn K cd7 "_law_fitted" = true) (k7 : PySem.W.keepIn K (.ref f7) = true)
    (a8 : PySem.W.nsIn K mainGlobals "law" = some (some (.ref f8))) (l8 : K.lookup f8 = some ⟨oc8, od8, .func (PySem.W.fnOf "law" "law" (defArgs s_law) (defBody s_law) (defScope s_law) .none kV8 dc8 pm8 an8 cd8 ct8), sl8⟩) (c8 : PySem.W.codeIn K cd8 "law" = true) (k8 : PySem.W.keepIn K (.ref f8) = true)
    (z_abs : PySem.W.nsIn K mainGlobals "abs" = some none)
    (z_int : PySem.W.nsIn K mainGlobals "int" = some none)
    (z_isinstance : PySem.W.nsIn K mainGlobals "isinstance" = some none)
    (z_len : PySem.W.nsIn K mainGlobals "len" = some none)
    (z_list : PySem.W.nsIn K mainGlobals "list" = some none)
    (z_max : PySem.W.nsIn K mainGlobals "max" = some none)
    (z_min : PySem.W.nsIn K mainGlobals "min" = some none)
    (z_range : PySem.W.nsIn K mainGlobals "range" = some none)
    (z_tuple : PySem.W.nsIn K mainGlobals "tuple" = some none)
    (m_DARK : PySem.W.nsIn K mainGlobals "DARK" = some (some (.str "#" t_DARK)))
    (m_LIGHT : PySem.W.nsIn K mainGlobals "LIGHT" = some (some (.str "." t_LIGHT)))
    : ∃ fd : FuncData, (∀ (s : Shared) (v : Value), BindsTo s fd ⟨[v], []⟩ [("_law_script", v)]) ∧ ∀ base : Heap, K.In base → base.Ns mainGlobals mg → FnOk l.prog w K mg base CX0 4 fa fd ["_law_script"] (spLaw K) := by
  have e := hfa.symm.trans (PySem.W.mg_of X G a8)
  cases e
  have F0 := fun_mk (st := s_fit_row) l0 c0 k0
  have b0 := F0.binds (ps := P_fit_row) fun _ _ _ _ _ _ us hl => match us, hl with | [_, _], _ => rfl
  have F1 := fun_mk (st := s_narrowed_cell) l1 c1 k1
  have b1 := F1.binds (ps := P_narrowed_cell) fun _ _ _ _ _ _ us hl => match us, hl with | [_, _, _], _ => rfl
  have F2 := fun_mk (st := s_fit_page) l2 c2 k2
  have b2 := F2.binds (ps := P_fit_page) fun _ _ _ _ _ _ us hl => match us, hl with | [_, _], _ => rfl
  have F3 := fun_mk (st := s_bag) l3 c3 k3
  have b3 := F3.binds (ps := P_bag) fun _ _ _ _ _ _ us hl => match us, hl with | [_, _], _ => rfl
  have F4 := fun_mk (st := s_draw) l4 c4 k4
  have b4 := F4.binds (ps := P_draw) fun _ _ _ _ _ _ us hl => match us, hl with | [_, _], _ => rfl
  have F5 := fun_mk (st := s_row) l5 c5 k5
  have b5 := F5.binds (ps := P_row) fun _ _ _ _ _ _ us hl => match us, hl with | [_, _, _], _ => rfl
  have F6 := fun_mk (st := s_page) l6 c6 k6
  have b6 := F6.binds (ps := P_page) fun _ _ _ _ _ _ us hl => match us, hl with | [_, _, _], _ => rfl
  have F7 := fun_mk (st := s_fitted) l7 c7 k7
  have b7 := F7.binds (ps := P_fitted) fun _ _ _ _ _ _ us hl => match us, hl with | [_, _], _ => rfl
  have F8 := fun_mk (st := s_law) l8 c8 k8
  have T : Txt K mg ⟨f0, _, f1, _, f2, _, f3, _, f4, _, f5, _, f6, _, f7, _, fa, _, t_DARK, t_LIGHT⟩ := ⟨F0, b0, PySem.W.mg_of X G a0, F1, b1, PySem.W.mg_of X G a1, F2, b2, PySem.W.mg_of X G a2, F3, b3, PySem.W.mg_of X G a3, F4, b4, PySem.W.mg_of X G a4, F5, b5, PySem.W.mg_of X G a5, F6, b6, PySem.W.mg_of X G a6, F7, b7, PySem.W.mg_of X G a7, F8, PySem.W.mg_of X G a8, PySem.W.mg_none_of X G z_abs, PySem.W.mg_none_of X G z_int, PySem.W.mg_none_of X G z_isinstance, PySem.W.mg_none_of X G z_len, PySem.W.mg_none_of X G z_list, PySem.W.mg_none_of X G z_max, PySem.W.mg_none_of X G z_min, PySem.W.mg_none_of X G z_range, PySem.W.mg_none_of X G z_tuple, PySem.W.mg_of X G m_DARK, PySem.W.mg_of X G m_LIGHT⟩
  exact ⟨_, fun s v => .of_eq rfl, fun base _ _ => ok_law T⟩
end K04
open PySem PySem.W PyProof.Rows
set_option maxHeartbeats 0 in
theorem PySem.Challenge.cw_farpage_k04_pages_fitted_holds : PySem.Challenge.rw_farpage_k04_pages_fitted.Holds := by
  w_on; o_law; k_head; (case hw => w_witness2)
  k_fill
  refine L2.walk_of (l := PySem.Challenge.rw_farpage_k04_pages_fitted) (n := 63) (k := 4) (x := "_law_script") (CX := fun _ => L2.CX0) (sp := fun w => K04.spLaw _) rfl (by decide) rfl ⟨rfl, by decide, by decide⟩ (fun w h Y => PySem.W.kIn_of Y) ?F (fun _ _ a ns hl _ hS => ⟨a, ns, rfl, hS, hl, fun _ => rfl⟩) (fun _ _ _ _ _ h => h)
  case F =>
    intro w mg fa h KX G hmg
    refine' K04.all_mk KX G hmg ?a0 ?l0 ?c0 ?k0 ?a1 ?l1 ?c1 ?k1 ?a2 ?l2 ?c2 ?k2 ?a3 ?l3 ?c3 ?k3 ?a4 ?l4 ?c4 ?k4 ?a5 ?l5 ?c5 ?k5 ?a6 ?l6 ?c6 ?k6 ?a7 ?l7 ?c7 ?k7 ?a8 ?l8 ?c8 ?k8 ?z_abs ?z_int ?z_isinstance ?z_len ?z_list ?z_max ?z_min ?z_range ?z_tuple ?m_DARK ?m_LIGHT
    (case a0 => k_is)
    (case l0 => k_is)
    (case c0 => k_is)
    (case k0 => k_is)
    (case a1 => k_is)
    (case l1 => k_is)
    (case c1 => k_is)
    (case k1 => k_is)
    (case a2 => k_is)
    (case l2 => k_is)
    (case c2 => k_is)
    (case k2 => k_is)
    (case a3 => k_is)
    (case l3 => k_is)
    (case c3 => k_is)
    (case k3 => k_is)
    (case a4 => k_is)
    (case l4 => k_is)
    (case c4 => k_is)
    (case k4 => k_is)
    (case a5 => k_is)
    (case l5 => k_is)
    (case c5 => k_is)
    (case k5 => k_is)
    (case a6 => k_is)
    (case l6 => k_is)
    (case c6 => k_is)
    (case k6 => k_is)
    (case a7 => k_is)
    (case l7 => k_is)
    (case c7 => k_is)
    (case k7 => k_is)
    (case a8 => k_is)
    (case l8 => k_is)
    (case c8 => k_is)
    (case k8 => k_is)
    (case z_abs => k_is)
    (case z_int => k_is)
    (case z_isinstance => k_is)
    (case z_len => k_is)
    (case z_list => k_is)
    (case z_max => k_is)
    (case z_min => k_is)
    (case z_range => k_is)
    (case z_tuple => k_is)
    (case m_DARK => k_is)
    (case m_LIGHT => k_is)
