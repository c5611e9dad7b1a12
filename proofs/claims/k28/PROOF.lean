import PyProof.Rows.All
import Wide.All
import OpenK.AllK
import Wide.FinOn
import HandS.ForMost
import HandS.IsInst
import HandS.StrMore
import HandS.Codes
import HandS.Evl
import HandS.TupAny
import HandS.TupMul
import HandS.Walk
import PyProof.Rows.StrJoinRep
import HandS.Lambda
import HandS.EndTab
import HandS.Conv
import KE.SortKeyHeap
import HandS.WideBits
import HandS.More
import PyProof.ListRange
import HandS.TupLe
import PySem.Challenge.RW_farpage_k28_whole_changes_told
set_option Elab.async false
set_option linter.all false
set_option maxRecDepth 100000
set_option maxHeartbeats 4000000
/-! Rules of our own over the hand layer: a sign times an int, list(text), ljust with a sign. -/
namespace Fp
open PySem L2 PyProof.Rows
/-- a text by its codes -/
def sOf (l : List Nat) : Str := ⟨l.toArray⟩
theorem sOf_list (l : List Nat) : (sOf l).cps.toList = l := by simp [sOf]
theorem sOf_len (l : List Nat) : (sOf l).length = l.length := by simp [sOf, Str.length]
theorem of_list {z : Str} {l : List Nat} (h : z.cps.toList = l) : z = sOf l := str_of_list (by rw [h, sOf_list])
theorem sOf_inj {l m : List Nat} (h : sOf l = sOf m) : l = m := by
  have := congrArg (fun z => z.cps.toList) h
  simpa [sOf] using this
theorem sOf_app (l m : List Nat) : sOf l ++ sOf m = sOf (l ++ m) := by
  apply of_list
  show ((sOf l) ++ (sOf m)).cps.toList = l ++ m
  rw [show ((sOf l) ++ (sOf m)).cps = (sOf l).cps ++ (sOf m).cps from rfl]
  simp [sOf]
section
variable {X : Cx}
theorem op_mul_str : OpR X (binaryOp .Mult) (fun x y H Q => ∃ c n, x = .str (sOf [c]) ∧ y = .int n ∧ (-100000 ≤ n ∧ n ≤ 100000) ∧ Q (.str (sOf (List.replicate n.toNat c))) H) := by
  intro pins s σ H x y v u Q I rx ry h
  obtain ⟨c, n, rfl, rfl, hz, q⟩ := h
  obtain ⟨t, rfl⟩ := rx
  obtain ⟨t', rfl⟩ := ry
  refine SB.mul (mulOk_of 1 100000 (by rw [sOf_len]; exact Nat.le_refl _) (by omega) (by omega) (by decide) (by decide)) fun t' k => ?_
  have e : Txt.mul (sOf [c]) n = sOf (List.replicate n.toNat c) := of_list (mul_one_list c n)
  rw [e]
  exact ⟨.str (sOf (List.replicate n.toNat c)), H, I.tok _, ⟨_, rfl⟩, q⟩
theorem padOk {i : Int} (h0 : 0 ≤ i) (h1 : i ≤ 100000) : PadOk i = true := padOk_of (by omega) (by omega)
theorem mt_ljustF : MtR X "str.ljust" (fun x xs H Q => ∃ (l : List Nat) (i : Int) (c : Nat), x = .str (sOf l) ∧ xs = [.int i, .str (sOf [c])] ∧ (0 ≤ i ∧ i ≤ 100000) ∧ Q (.str (sOf (l ++ List.replicate (i.toNat - l.length) c))) H) := by
  intro pins s σ H x xs v us Q I rx rs h
  obtain ⟨l, i, c, rfl, rfl, hz, q⟩ := h
  obtain ⟨t, rfl⟩ := rx
  obtain ⟨u, w', rfl, ⟨t', rfl⟩, ⟨t'', rfl⟩⟩ := vals2 rs
  refine ljust_fill (padOk hz.1 hz.2) (sOf_len _) fun t' k => ?_
  have e : Txt.ljustF (sOf l) i ((sOf [c]).cps.getD 0 0) = sOf (l ++ List.replicate (i.toNat - l.length) c) := of_list (by
    rw [ljustF_list, sOf_list, sOf_len]
    rfl)
  rw [e]
  exact ⟨.str (sOf (l ++ List.replicate (i.toNat - l.length) c)), H, I.tok _, ⟨_, rfl⟩, q⟩
theorem vals_signs {acc : List Value} {l : List Nat} (h1 : acc.length = l.length) (h2 : ∀ (j : Nat) v, acc[j]? = some v → ∃ c u, l[j]? = some c ∧ v = .str ⟨#[c]⟩ u) : Vals (l.map fun c => V.str (sOf [c])) acc := by
  induction l generalizing acc with
  | nil =>
    cases acc with
    | nil => exact .nil
    | cons a r => simp at h1
  | cons c r ih =>
    cases acc with
    | nil => simp at h1
    | cons a b =>
      obtain ⟨c', u, e, rfl⟩ := h2 0 a rfl
      have e2 : c' = c := by simpa using e.symm
      subst e2
      exact .cons ⟨u, rfl⟩ (ih (by simpa using h1) fun j v hj => h2 (j + 1) v hj)
theorem call_list_str (hc : X.calm = true) : CallR X (.type "list") (fun xs H Q => ∃ z : List Nat, xs = [.str (sOf z)] ∧ z.length ≤ 100000 ∧ ∀ l, H l = none → Q (.ref l) (upd H l (.lst (z.map fun c => V.str (sOf [c]))))) := by
  intro pins s σ H xs us Q I r h
  obtain ⟨z, rfl, hz, q⟩ := h
  obtain ⟨u, rfl, t, rfl⟩ := vals1 r
  have hl : z.length ≤ sizeLine := Nat.le_trans hz (by decide)
  refine PySem.call_list_str (I.ok.hd hc) (sOf z) t (hn := by show (sOf z).length ≤ sizeLine; rw [sOf_len]; exact hl) fun h' tk acc' c' hk hS' hacc => ?_
  have r' : Vals (z.map fun c => V.str (sOf [c])) acc'.toList := vals_signs (by have := hacc.1; simpa [sOf] using this) fun j v hj => by
    obtain ⟨c, u, e, rfl⟩ := hacc.2 j v (by simpa using hj)
    exact ⟨c, u, by simpa [sOf] using e, rfl⟩
  exact ⟨.ref s.heap.objs.size, _, I.laid (t' := tk) hk (Nat.le_refl _) (show ObjOk X.prog X.w _ h' _ (.lst _) from ⟨by rw [List.length_map]; exact hl, acc'.toList, c', r', by simpa using hS'⟩), rfl, q _ (I.hok.fresh (Nat.le_refl _))⟩
end
/-! ### heaps -/
theorem same_new {H : Hp} {p : Addr} {o : HO} (h : H p = none) : Same H (upd H p o) := fun b x e => by
  rw [upd_ne (ne_of_none e h)]
  exact e
/-- what is new may change -/
theorem Same.mut {H H' : Hp} {p : Addr} {o : HO} (e : Same H H') (h : H p = none) : Same H (upd H' p o) := fun b x hb => by
  rw [upd_ne (ne_of_none hb h)]
  exact e b x hb
/-- a bag of the laws' draws -/
def BagAt (H : Hp) (b : Addr) : Prop := ∃ g s : Int, H b = some (.lst [.int g, .int s]) ∧ 0 ≤ g ∧ 0 ≤ s ∧ s < 1000000000000
/-- the bag has turned, what else stood stands -/
def Bx (b : Addr) (H H' : Hp) : Prop := BagAt H' b ∧ ∀ a o, a ≠ b → H a = some o → H' a = some o
theorem Bx.refl {b : Addr} {H : Hp} (h : BagAt H b) : Bx b H H := ⟨h, fun _ _ _ e => e⟩
theorem Bx.trans {b : Addr} {H H1 H2 : Hp} (x : Bx b H H1) (y : Bx b H1 H2) : Bx b H H2 := ⟨y.1, fun a o n e => y.2 a o n (x.2 a o n e)⟩
theorem Bx.drawn {b : Addr} {H : Hp} {g s : Int} (g0 : 0 ≤ g) (s0 : 0 ≤ s) (s1 : s < 1000000000000) : Bx b H (upd H b (.lst [.int g, .int s])) := ⟨⟨g, s, upd_same, g0, s0, s1⟩, fun a o n e => by
  rw [upd_ne n]
  exact e⟩
theorem Bx.same {b : Addr} {H H1 H2 : Hp} (x : Bx b H H1) (y : Same H1 H2) : Bx b H H2 := by
  obtain ⟨⟨g, s, h, r⟩, k⟩ := x
  exact ⟨⟨g, s, y _ _ h, r⟩, fun a o n e => y _ _ (k a o n e)⟩
/-- from before the bag was made -/
theorem Bx.back {b : Addr} {H0 H H' : Hp} (x : Bx b H H') (y : Same H0 H) (n : H0 b = none) : Same H0 H' := fun a o e => x.2 a o (ne_of_none e n) (y a o e)
theorem Bx.mut {b p : Addr} {H H' : Hp} {o : HO} (x : Bx b H H') (hp : H p = none) (n : p ≠ b) : Bx b H (upd H' p o) := by
  obtain ⟨⟨g, s, h, r⟩, k⟩ := x
  refine ⟨⟨g, s, by rw [upd_ne n.symm]; exact h, r⟩, fun a u m e => ?_⟩
  rw [upd_ne (ne_of_none e hp)]
  exact k a u m e
theorem Bx.free {b p : Addr} {H H' : Hp} (x : Bx b H H') (h : H' p = none) : H p = none := by
  have n : p ≠ b := by
    obtain ⟨g, s, e, _⟩ := x.1
    exact (ne_of_none e h).symm
  cases q : H p with
  | none => rfl
  | some o =>
    rw [x.2 p o n q] at h
    cases h
theorem BagAt.new {H : Hp} {p : Addr} {g s : Int} (g0 : 0 ≤ g) (s0 : 0 ≤ s) (s1 : s < 1000000000000) : BagAt (upd H p (.lst [.int g, .int s])) p := ⟨g, s, upd_same, g0, s0, s1⟩
theorem BagAt.ne {H : Hp} {b p : Addr} (h : BagAt H b) (n : H p = none) : p ≠ b := by
  obtain ⟨g, s, e, _⟩ := h
  exact (ne_of_none e n).symm
/-- a list's own address is no bag's where its items are texts -/
def cells (l : List Nat) : List V := l.map fun c => V.str (sOf [c])
theorem cells_len (l : List Nat) : (cells l).length = l.length := List.length_map ..
theorem cells_set (l : List Nat) (j c : Nat) : (cells l).set j (.str (sOf [c])) = cells (l.set j c) := by
  unfold cells
  rw [List.map_set]
theorem cells_app (l : List Nat) (c : Nat) : cells l ++ [.str (sOf [c])] = cells (l ++ [c]) := by
  unfold cells
  rw [List.map_append]
  rfl
/-- the cells of rows -/
def Cell (c : Nat) : Prop := c = 46 ∨ c = 35
def Row (l : List Nat) : Prop := ∀ c ∈ l, Cell c
theorem Row.set {l : List Nat} {j c : Nat} (h : Row l) (hc : Cell c) : Row (l.set j c) := fun x hx => by
  rcases List.mem_or_eq_of_mem_set hx with e | e
  · exact h x e
  · rw [e]
    exact hc
theorem Row.app {l : List Nat} {c : Nat} (h : Row l) (hc : Cell c) : Row (l ++ [c]) := fun x hx => by
  rcases List.mem_append.mp hx with e | e
  · exact h x e
  · rw [List.mem_singleton.mp e]
    exact hc
theorem Row.rep {n c : Nat} (hc : Cell c) : Row (List.replicate n c) := fun x hx => by
  rw [(List.mem_replicate.mp hx).2]
  exact hc
theorem Row.nil : Row [] := fun _ h => nomatch h
def cellN (i : Int) : Nat := if i = 0 then 46 else 35
theorem cellN_cell (i : Int) : Cell (cellN i) := by
  unfold cellN
  split
  · exact .inl rfl
  · exact .inr rfl
theorem cell_at {i : Int} (h0 : 0 ≤ i) (h1 : i < 2) : atI (Str.ofString ".#").cps.toList i = some (cellN i) := by
  have : i = 0 ∨ i = 1 := by omega
  rcases this with rfl | rfl <;> rfl
theorem two_len : (Str.ofString ".#").length ≤ sizeLine := by decide
theorem sz {n : Nat} (h : n ≤ 100000) : n ≤ sizeLine := Nat.le_trans h (by decide)
theorem szl {n : Nat} (h : n < 100000) : n < sizeLine := Nat.lt_of_lt_of_le h (by decide)
theorem sIx_nat' (n d a : Nat) : HT.sIx n d (some (a : Int)) = min a n := HT.sIx_nat n d a
theorem cutS_nat (l : List Nat) (a b : Nat) (ha : a ≤ l.length) (hb : b ≤ l.length) : cutS (sOf l) (some (a : Int)) (some (b : Int)) = sOf ((l.drop a).take (b - a)) := by
  unfold cutS
  rw [HT.sIx_nat, HT.sIx_nat, sOf_len, sOf_list, Nat.min_eq_left ha, Nat.min_eq_left hb]
  rfl
theorem take_more {α : Type} (l : List α) (i : Nat) (x : α) (h : l[i]? = some x) : l.take (i + 1) = l.take i ++ [x] := by
  rw [List.take_add_one, h]
  rfl
theorem range_more {α : Type} (f : Nat → α) (i : Nat) : (List.range (i + 1)).map f = (List.range i).map f ++ [f i] := by
  rw [List.range_succ, List.map_append]
  rfl
theorem join_cells : ∀ l : List Nat, Txt.join (Str.ofString "") (l.map fun c => sOf [c]) = sOf l := by
  intro l
  show Builtin.Str.glued (Str.ofString "") (l.map fun c => sOf [c]) = sOf l
  rw [StrLaws.glued_eq_join]
  induction l with
  | nil => rfl
  | cons c r ih =>
    cases r with
    | nil => rfl
    | cons d r =>
      show sOf [c] ++ Str.ofString "" ++ Str.join (Str.ofString "") (List.map (fun c => sOf [c]) (d :: r)) = sOf (c :: d :: r)
      rw [ih, show (Str.ofString "") = sOf [] from rfl, sOf_app, sOf_app]
      rfl
theorem cells_strs (l : List Nat) : cells l = (l.map fun c => sOf [c]).map V.str := by
  rw [List.map_map]
  rfl
theorem ones_sum (l : List Nat) : ((l.map fun c => sOf [c]).map (·.length)).sum = l.length := by
  induction l with
  | nil => rfl
  | cons c r ih =>
    rw [List.map_cons, List.map_cons, List.sum_cons, ih, sOf_len, List.length_cons]
    show 1 + r.length = r.length + 1
    omega
theorem join_size {l : List Nat} (h : l.length ≤ 100000) : ((l.map fun c => sOf [c]).map (·.length)).sum + (l.map fun c => sOf [c]).length * (Str.ofString "").length ≤ 16777216 := by
  rw [ones_sum, show (Str.ofString "").length = 0 from rfl]
  omega
theorem rep_one (n : Nat) (c : Nat) : (List.replicate n [V.str (sOf [c])]).flatten = cells (List.replicate n c) := by
  induction n with
  | zero => rfl
  | succ k ih =>
    rw [List.replicate_succ, List.flatten_cons, ih, List.replicate_succ]
    rfl

/-! ### lists and tuples of texts -/
def sV (l : List Nat) : V := .str (sOf l)
def sD (l : List Nat) : PyData := .str (sOf l)
theorem dp_rows {K : PySem.W.Frag} {H : Hp} : ∀ rows : List (List Nat), DpAll K H (rows.map sV) (rows.map sD)
  | [] => .nil
  | r :: rs => .cons (.str _) (dp_rows rs)
def Codes (l : List Nat) : Prop := ∀ c ∈ l, c < 128
theorem strOk_of {l : List Nat} (h : Codes l) : PyData.strOk (sOf l) = true := by
  unfold PyData.strOk sOf
  rw [Array.all_eq_true']
  intro c hc
  have h2 := h c (by simpa using hc)
  exact decide_eq_true (by omega)
theorem lay_rows : ∀ {rows : List (List Nat)}, (∀ r ∈ rows, Codes r) → PyData.canLayAll0 (rows.map sD) = true
  | [], _ => by simp [PyData.canLayAll0]
  | r :: rs, h => by
    have h1 : PyData.canLay0 (sD r) = true := by
      show PyData.canLay0 (.str (sOf r)) = true
      simp only [PyData.canLay0]
      exact strOk_of (h r (List.mem_cons_self ..))
    have h2 := lay_rows (rows := rs) fun x hx => h x (List.mem_cons_of_mem _ hx)
    simp only [List.map_cons, PyData.canLayAll0, h1, h2, Bool.and_true]
theorem depth_rows : ∀ rows : List (List Nat), PyData.depthAll (rows.map sD) = 0
  | [] => by simp [PyData.depthAll]
  | r :: rs => by
    have h := depth_rows rs
    simp only [List.map_cons, PyData.depthAll, h, sD, PyData.depth]
    rfl
theorem shaped_tup {rows : List (List Nat)} (h : ∀ r ∈ rows, Codes r) : SeqAt.shaped (.tuple (rows.map sD)) = true := by
  show (PyData.canLay0 (.tuple (rows.map sD)) && decide (PyData.depth (.tuple (rows.map sD)) ≤ 64)) = true
  rw [Bool.and_eq_true]
  refine ⟨by simp only [PyData.canLay0]; exact lay_rows h, decide_eq_true ?_⟩
  simp only [PyData.depth, depth_rows]
  omega
theorem shaped_lst {rows : List (List Nat)} (h : ∀ r ∈ rows, Codes r) : SeqAt.shaped (.list (rows.map sD)) = true := by
  show (PyData.canLay0 (.list (rows.map sD)) && decide (PyData.depth (.list (rows.map sD)) ≤ 64)) = true
  rw [Bool.and_eq_true]
  refine ⟨by simp only [PyData.canLay0]; exact lay_rows h, decide_eq_true ?_⟩
  simp only [PyData.depth, depth_rows]
  omega
theorem eqv_tup {rows : List (List Nat)} (h : ∀ r ∈ rows, Codes r) : PyData.eqv (.tuple (rows.map sD)) (.tuple (rows.map sD)) = true := SeqAt.eqv_refl _ (by simp only [PyData.canLay0]; exact lay_rows h)
theorem eqv_lst {rows : List (List Nat)} (h : ∀ r ∈ rows, Codes r) : PyData.eqv (.list (rows.map sD)) (.list (rows.map sD)) = true := SeqAt.eqv_refl _ (by simp only [PyData.canLay0]; exact lay_rows h)
theorem Row.codes {l : List Nat} (h : Row l) : Codes l := fun c hc => by
  rcases h c hc with e | e <;> rw [e] <;> decide
theorem same_t {K : PySem.W.Frag} {H H' : Hp} {a : Addr} {xs : List V} (e : Same H H') (h : SqT K H a xs) : SqT K H' a xs := Evl.ex_t e h
theorem cut1 (xs : List V) : cutV xs (some 1) none = xs.drop 1 := by
  unfold cutV
  rw [show HT.sIx xs.length 0 (some 1) = min 1 xs.length from HT.sIx_nat xs.length 0 1, HT.sIx_none]
  cases xs with
  | nil => rfl
  | cons x r =>
    rw [show min 1 (x :: r).length = 1 by
      rw [List.length_cons]
      omega]
    show (List.take ((x :: r).length - 1) r) = r
    rw [List.length_cons, Nat.add_sub_cancel]
    exact List.take_length

/-! ### tuples of any kind, texts times an int -/
section
variable {X : Cx}
theorem cutV_whole {xs : List V} {lo hi : Option Int} (h : HT.sIx xs.length 0 lo = 0 ∧ HT.sIx xs.length xs.length hi = xs.length) : cutV xs lo hi = xs := by
  unfold cutV
  rw [h.1, h.2]
  show (xs.drop 0).take (xs.length - 0) = xs
  rw [List.drop_zero, Nat.sub_zero, List.take_length]
theorem sl_tupW : SlR X (fun x lo hi H Q => ∃ a xs, x = .ref a ∧ H a = some (.tup xs) ∧ ∀ q H', Same H H' → H' q = some (.tup (cutV xs lo hi)) → Q (.ref q) H') := by
  intro pins s σ H x v vl vu lo hi sl Q I rx hs pl pu h
  obtain ⟨a, xs, rfl, hx, q⟩ := h
  refine sl_tupA pins s σ H _ v vl vu lo hi sl Q I rx hs pl pu ⟨a, xs, rfl, .inl (.inl hx), fun e => ?_, fun e p hp => ?_⟩
  · exact q a H (Same.refl H) (by rw [cutV_whole e]; exact hx)
  · exact q p _ (same_new hp) upd_same
theorem op_catW : OpR X (binaryOp .Add) (fun x y H Q => ∃ a b xs ys, x = .ref a ∧ y = .ref b ∧ H a = some (.tup xs) ∧ H b = some (.tup ys) ∧ xs.length + ys.length ≤ 100000 ∧ ∀ q H', Same H H' → H' q = some (.tup (xs ++ ys)) → Q (.ref q) H') := by
  intro pins s σ H x y v u Q I rx ry h
  obtain ⟨a, b, xs, ys, rfl, rfl, ha, hb, hz, q⟩ := h
  refine op_catA pins s σ H _ _ v u Q I rx ry ⟨a, b, xs, ys, rfl, rfl, .inl (.inl ha), .inl (.inl hb), sz hz, fun e => ?_, fun _ e => ?_, fun _ _ p hp => ?_⟩
  · subst e
    exact q b H (Same.refl H) hb
  · subst e
    exact q a H (Same.refl H) (by rw [List.append_nil]; exact ha)
  · exact q p _ (same_new hp) upd_same
theorem op_mul_txt : OpR X (binaryOp .Mult) (fun x y H Q => ∃ (z : Str) (n : Int), x = .str z ∧ y = .int n ∧ (0 ≤ n ∧ n ≤ 1000 ∧ z.length ≤ 1000) ∧ ∀ m : Str, (m.length : Int) = (z.length : Int) * n → Q (.str m) H) := by
  intro pins s σ H x y v u Q I rx ry h
  obtain ⟨z, n, rfl, rfl, hz, q⟩ := h
  obtain ⟨t, rfl⟩ := rx
  obtain ⟨t', rfl⟩ := ry
  refine SB.mul (mulOk_of 1000 1000 hz.2.2 (by omega) (by omega) (by decide) (by decide)) fun t' k => ?_
  have e := len_mul z n
  rw [if_neg (by simp; omega)] at e
  exact ⟨.str (Txt.mul z n), H, I.tok _, ⟨_, rfl⟩, q _ e⟩
end
theorem cutV_mem {xs : List V} {lo hi : Option Int} {v : V} (h : v ∈ cutV xs lo hi) : v ∈ xs := by
  unfold cutV at h
  exact List.mem_of_mem_drop (List.mem_of_mem_take h)
theorem cutV_len (xs : List V) (lo hi : Option Int) : (cutV xs lo hi).length ≤ xs.length := by
  unfold cutV
  rw [List.length_take, List.length_drop]
  omega
/-! ### things of the laws -/
def Flat (v : V) : Prop := v = .non ∨ (∃ x, v = .bl x) ∨ (∃ i, v = .int i) ∨ ∃ z : Str, v = .str z ∧ z.length ≤ 100000
def It (b : Addr) (H : Hp) (v : V) : Prop := Flat v ∨ (∃ a xs, v = .ref a ∧ a ≠ b ∧ H a = some (.lst xs)) ∨ ∃ a xs, v = .ref a ∧ H a = some (.tup xs)
def Tg (b : Addr) (H : Hp) (v : V) : Prop := Flat v ∨ (∃ a xs, v = .ref a ∧ a ≠ b ∧ H a = some (.lst xs)) ∨ ∃ a xs, v = .ref a ∧ H a = some (.tup xs) ∧ xs.length ≤ 1000 ∧ ∀ u ∈ xs, It b H u
theorem BagAt.tup {H : Hp} {b a : Addr} {xs : List V} (h : BagAt H b) (e : H a = some (.tup xs)) : a ≠ b := fun z => by
  obtain ⟨g, s, e2, _⟩ := h
  rw [z, e2] at e
  cases e
theorem It.bx {b : Addr} {H H' : Hp} {v : V} (h : It b H v) (hb : BagAt H b) (x : Bx b H H') : It b H' v := by
  rcases h with h | ⟨a, xs, rfl, n, e⟩ | ⟨a, xs, rfl, e⟩
  · exact .inl h
  · exact .inr (.inl ⟨a, xs, rfl, n, x.2 _ _ n e⟩)
  · exact .inr (.inr ⟨a, xs, rfl, x.2 _ _ (hb.tup e) e⟩)
theorem Tg.bx {b : Addr} {H H' : Hp} {v : V} (h : Tg b H v) (hb : BagAt H b) (x : Bx b H H') : Tg b H' v := by
  rcases h with h | ⟨a, xs, rfl, n, e⟩ | ⟨a, xs, rfl, e, l, k⟩
  · exact .inl h
  · exact .inr (.inl ⟨a, xs, rfl, n, x.2 _ _ n e⟩)
  · exact .inr (.inr ⟨a, xs, rfl, x.2 _ _ (hb.tup e) e, l, fun u hu => (k u hu).bx hb x⟩)
theorem Tg.it {b : Addr} {H : Hp} {v : V} (h : Tg b H v) : It b H v := by
  rcases h with h | h | ⟨a, xs, rfl, e, l, k⟩
  · exact .inl h
  · exact .inr (.inl h)
  · exact .inr (.inr ⟨a, xs, rfl, e⟩)
theorem Tg.str {b : Addr} {H : Hp} {z : Str} (h : z.length ≤ 100000) : Tg b H (.str z) := .inl (.inr (.inr (.inr ⟨z, rfl, h⟩)))
theorem It.str {b : Addr} {H : Hp} {z : Str} (h : z.length ≤ 100000) : It b H (.str z) := .inl (.inr (.inr (.inr ⟨z, rfl, h⟩)))
theorem str_sOf (z : Str) : z = sOf z.cps.toList := of_list rfl

/-! ### rules whose new objects stand in an opaque heap -/
section
variable {X : Cx} {es : List Expr} {t : TA} {pos : Pos}
theorem pe_weaken {e : Expr} {te tf : TE} (h : PE X e te) (k : ∀ σ H Q, tf σ H Q → te σ H Q) : PE X e tf := ⟨fun pins s σ H Q I q => h.run pins s σ H Q I (k σ H Q q)⟩
def tLstW (t : TA) : TE := fun σ H Q => t σ H fun xs H1 => xs.length ≤ 100000 ∧ ∀ p H2, H1 p = none → Same H1 H2 → H2 p = some (.lst xs) → Q (.ref p) H2
def tTupW (t : TA) : TE := fun σ H Q => t σ H fun xs H1 => xs.length ≤ 100000 ∧ ∀ p H2, H1 p = none → Same H1 H2 → H2 p = some (.tup xs) → Q (.ref p) H2
end
def rNewW (H : Hp) (o : HO) (Q : VK) : Prop := ∀ p H2, H p = none → Same H H2 → H2 p = some o → Q (.ref p) H2
theorem rNewW.go {H : Hp} {o : HO} {Q : VK} (q : rNewW H o Q) : ∀ p, H p = none → Q (.ref p) (upd H p o) := fun p hp => q p _ hp (same_new hp) upd_same
section
variable {X : Cx}
theorem op_catLW : OpR X (binaryOp .Add) (fun x y H Q => ∃ a b xs ys, x = .ref a ∧ y = .ref b ∧ H a = some (.lst xs) ∧ H b = some (.lst ys) ∧ xs.length + ys.length ≤ 100000 ∧ rNewW H (.lst (xs ++ ys)) Q) := by
  intro pins s σ H x y v u Q I rx ry h
  obtain ⟨a, b, xs, ys, rfl, rfl, ha, hb, hz, q⟩ := h
  exact op_cat pins s σ H _ _ v u Q I rx ry ⟨a, b, xs, ys, rfl, rfl, ha, hb, sz hz, q.go⟩
theorem op_repTW : OpR X (binaryOp .Mult) (fun x y H Q => ∃ l k xs, x = .ref l ∧ y = .int k ∧ H l = some (.tup xs) ∧ xs ≠ [] ∧ 2 ≤ k ∧ k ≤ 1000 ∧ xs.length ≤ 1000 ∧ rNewW H (.tup (List.replicate k.toNat xs).flatten) Q) := by
  intro pins s σ H x y v u Q I rx ry h
  obtain ⟨l, k, xs, rfl, rfl, hl, h1, h2, h3, h4, q⟩ := h
  exact op_repT pins s σ H _ _ v u Q I rx ry ⟨l, k, xs, rfl, rfl, .inl (.inl hl), h1, h2, h3, h4, q.go⟩
theorem call_list_ofW : CallR X (.type "list") (fun xs H Q => ∃ p ys, xs = [.ref p] ∧ (H p = some (.lst ys) ∨ H p = some (.tup ys)) ∧ rNewW H (.lst ys) Q) := by
  intro pins s σ H xs us Q I r h
  obtain ⟨p, ys, rfl, hp, q⟩ := h
  exact call_list_of pins s σ H _ us Q I r ⟨p, ys, rfl, hp.elim (fun h => .inl (SqL.of h)) (fun h => .inr (.inl (.inl h))), q.go⟩
theorem call_list_strW (hc : X.calm = true) : CallR X (.type "list") (fun xs H Q => ∃ z : Str, xs = [.str z] ∧ z.length ≤ 100000 ∧ rNewW H (.lst (cells z.cps.toList)) Q) := by
  intro pins s σ H xs us Q I r h
  obtain ⟨z, rfl, hz, q⟩ := h
  refine call_list_str hc pins s σ H _ us Q I r ⟨z.cps.toList, by rw [← str_sOf], ?_, q.go⟩
  rw [Array.length_toList]
  exact hz
end
section
variable {X : Cx} {es : List Expr} {t : TA} {pos : Pos}
theorem pe_tupW {x1} (h : PA X es t) : PE X (.Tuple es x1 pos) (tTupW t) := by
  refine ⟨fun pins s σ H Q I hq => ?_⟩
  refine wpAny_Tuple_spliced (thn (h.run pos pins s σ H _ I hq) fun us s1 ⟨xs, H1, I1, r, z, q⟩ => ⟨by rw [← r.length]; exact sz z, ?_⟩)
  have hf : H1 s1.heap.objs.size = none := I1.hok.fresh (Nat.le_refl _)
  refine ⟨.ref s1.heap.objs.size, upd H1 s1.heap.objs.size (.tup xs), I1.laid (t' := s1.toks) (fun b u e => Heap.get?_push_of_some _ e) (Nat.le_refl _) ?_, rfl, q _ _ hf (same_new hf) upd_same⟩
  exact ⟨sz z, us, r, ⟨_, Heap.get?_push_size _ rfl, rfl, _, rfl⟩⟩
theorem pe_lstW (h : PA X es t) : PE X (.List es pos) (tLstW t) := by
  refine ⟨fun pins s σ H Q I hq => ?_⟩
  refine wpAny_List_spliced (thn (h.run pos pins s σ H _ I hq) fun us s1 ⟨xs, H1, I1, r, z, q⟩ => ⟨by rw [← r.length]; exact sz z, ?_⟩)
  have hf : H1 s1.heap.objs.size = none := I1.hok.fresh (Nat.le_refl _)
  refine ⟨.ref s1.heap.objs.size, upd H1 s1.heap.objs.size (.lst xs), I1.laid (t' := s1.toks) (fun b u e => Heap.get?_push_of_some _ e) (Nat.le_refl _) ?_, rfl, q _ _ hf (same_new hf) upd_same⟩
  exact ⟨sz z, us, 0, r, Heap.get?_push_size _ rfl⟩
end
end Fp

set_option Elab.async false
set_option linter.all false
set_option maxRecDepth 100000
set_option maxHeartbeats 4000000
/-! sorted(range(n), key=lambda i: xs[i]) over the hand layer. -/
namespace Fp
open PySem PySem.W PySem.Spec PyProof.Rows
section
variable {prog : Program} {w : World} {A : Around} {E : Value → Shared → Prop} {s : Shared}
/-- the key's call: (lambda i: xs[i])(i) -/
theorem key_turn {f c' a cL : Addr} {qual : Str} {params : Arguments} {scope : Scope} {clos : List (Str × Addr)} {pm ctv : Value} {xL xP : Str} {p1 p2 p3 : Pos} {h : Heap} {tk : Nat} {its : Array Value} {i : Int} {t : Tok} {x : Int} {tx : Tok}
    (hroom : A.depth < recursionLimit) (hf : h.get? f = some (kla_obj "<lambda>" qual params (.Subscript (.Name xL p1) (.Name xP p2) p3) scope clos pm c' ctv))
    (hkind : scope.kind = .function) (hco : scope.isCoroutine = false) (hgen : scope.isGenerator = false) (hcell : ∀ y ∈ scope.names, y.2 ≠ .cell) (hP : scope.names.lookup xP = some .local) (hL : scope.names.lookup xL = some .free)
    (hcl : clos.lookup xL = some cL) (hic : h.IsCell cL (some (.ref a))) (hcr : ∃ (oc : Obj) (vs : Array Value) (t : Tok), h.get? c' = some oc ∧ oc.data = .fields vs ∧ vs[1]? = some (.str qual t))
    (hbind : ∀ v, bindArgs (kla_fn "<lambda>" qual params (.Subscript (.Name xL p1) (.Name xP p2) p3) scope clos pm (.ref c') ctv) ⟨[v], []⟩ = pure [(xP, v)])
    (hlim : h.NoLimit) (hl : h.IsList a its) (h0 : 0 ≤ i) (hi : i < 2 ^ 63) (hx : its[i.toNat]? = some (.int x tx))
    (hd1 : (xL == ("__debug__" : Str)) = false) (hd2 : (xP == ("__debug__" : Str)) = false) (hd3 : (xL == ("__classdict__" : Str)) = false) :
    wpAny (model prog w) A (call (.ref f) [.int i t]) (KeyPure (.int x) { s with heap := h, toks := tk }) E { s with heap := h, toks := tk } := by
  obtain ⟨oc, vs, tq, hoc, hdc, hvc⟩ := hcr
  refine wpAny_call (kla_callFunE hroom hf rfl hco hgen rfl ⟨c', oc, vs, tq, rfl, hoc, hdc, hvc⟩ ?_)
  rw [hbind]
  refine wpAny_pure (wpAny_newFunctionEnv hcell (fun y hy => ?_) (fun h₁ hns hsb => ⟨hlim.fresh _ hsb, ?_⟩) hkind)
  · rw [List.mem_singleton.mp hy]
    exact hP
  have kp : ∀ b o, h.get? b = some o → h₁.get? b = some o := fun b o e => hsb.extBut b o (Nat.ne_of_lt (Heap.lt_size e)) (Heap.get?_push_of_some _ e)
  show codeAny _ _ (.expr (.Subscript (.Name xL p1) (.Name xP p2) p3) (envX qual scope h.objs.size f (.ref c') clos)) _ _
  refine kla_codeExpr ?_
  have hic1 : h₁.IsCell cL (some (.ref a)) := by
    obtain ⟨o, ho, hd⟩ := hic
    exact ⟨o, kp _ _ ho, hd⟩
  have hl1 : h₁.IsList a its := by
    obtain ⟨o, ho, r⟩ := hl
    exact ⟨o, kp _ _ ho, r⟩
  refine Subscript_ (wpAny_Name (wpAny_loadName_free hkind hL hcl hic1 (wpAny_Name (wpAny_loadName_local hkind hP hns (show ([(xP, Value.int i t)] : List (Str × Value)).reverse.lookup xP = some (Value.int i t) by simp [List.lookup]) ?_) hd2) hd3) hd1)
  refine item_listR hl1 h0 hi hx ?_ rfl
  exact ⟨h₁, _, rfl, kp, .int _ _⟩
theorem each_range {acc : List Value} {n : Nat} (h1 : acc.length = n) (h2 : ∀ (j : Nat) v, acc[j]? = some v → ∃ t, v = .int (0 + (j : Int) * 1) t) : EachIs (fun v (i : Nat) => ∃ t, v = .int (i : Int) t) acc (List.range n) := by
  refine EachIs.of_zip (by rw [h1, List.length_range]) fun p hp => ?_
  obtain ⟨j, hj⟩ := List.mem_iff_getElem?.mp hp
  rw [List.getElem?_zip_eq_some] at hj
  obtain ⟨t, e⟩ := h2 j p.1 hj.1
  have e2 : p.2 = j := by
    have hj2 := hj.2
    have hl : j < n := by
      have := (List.getElem?_eq_some_iff.mp hj2).1
      rw [List.length_range] at this
      exact this
    rw [List.getElem?_range hl] at hj2
    exact (Option.some.inj hj2).symm
  refine ⟨t, ?_⟩
  rw [e, e2]
  congr 1
  omega
theorem sorted_range_key {r : Addr} {b : Int} {t u v : Tok} {f : Addr} {n : Nat} {Q : Value → Shared → Prop} (k : Nat → Int) (hh : A.handled = none) (hr : IsRange s.heap r 0 b 1 t u v) (hn : b = n) (hlen : n ≤ 100000) (hu : A.units + 2 < cLine)
    (turn : ∀ (i : Nat) (tt : Tok), i < n → ∀ (h : Heap) (tk : Nat), (∀ b o, s.heap.get? b = some o → h.get? b = some o) →
      wpAny (model prog w) A.in1.in1 (call (.ref f) [.int (i : Int) tt]) (KeyPure (.int (k i)) { s with heap := h, toks := tk }) (fun _ _ => False) { s with heap := h, toks := tk })
    (fin : ∀ (out : List Value) (c : Nat) (g h' : Heap) (tk : Nat) (p : Addr), (∀ b o, s.heap.get? b = some o → g.get? b = some o) → (∀ b o, g.get? b = some o → h'.get? b = some o) → g.objs.size ≤ p → h'.get? p = some (seqObj "list" out.toArray c) → out.length = n →
      EachIs (fun v (i : Nat) => ∃ t, v = .int (i : Int) t) out ((List.range n).mergeSort (dataLe false fun i => .int (k i))) → Q (.ref p) { s with heap := h', toks := tk }) :
    wpAny (model prog w) A (call (.builtin "sorted") [.ref r] [(Str.ofString "key", .ref f)]) Q E s := by
  refine call_function_entry_kw kind_sorted plain_sorted entry_sorted (ksk_s1 _ _) ?_
  unfold Builtin.«sorted»
  refine wpAny_bind (m := checkCount "sorted" 1 1 _) (wpAny_pure ?_)
  refine wpAny_bind (L2.collect_range (n := n) (A := A.in1) hh hr (small_one (by omega) (by omega) (by omega) (by omega)) (by rw [rangeSize_one]; split <;> omega) (by omega) fun h1 tk1 acc hk hacc => ?_)
  have hal : acc.toList.length = n := by rw [Array.length_toList]; exact hacc.1
  have eR := each_range hal fun j v hj => hacc.2 j v (by simpa using hj)
  have hz : acc.toList.length ≤ sizeLine := by rw [hal]; exact Nat.le_trans hlen (by decide)
  refine wpAny_bind (wpAny_newList ?_ hz)
  have hL : (h1.push (seqObj "list" acc.toList.toArray 0)).get? h1.objs.size = some (seqObj "list" acc.toList.toArray 0) := Heap.get?_push_size _ rfl
  refine wpAny_bind (wpAny_holding (wpAny_call_entry_kw slot_list_sort ⟨_, hL, rfl⟩ entry_list_sort ?body (ksk_l1 _ _)))
  rw [ksk_t1]
  have up : ∀ {g : Heap}, KeepsBut h1.objs.size (h1.push (seqObj "list" acc.toList.toArray 0)) g → ∀ b o, s.heap.get? b = some o → g.get? b = some o := fun {g} kp b o q =>
    kp b o (Nat.ne_of_lt (Heap.lt_size (hk b o q))) (Heap.get?_push_of_some _ (hk b o q))
  refine keyH_tree (kz := (List.range n).map fun i => PyData.int (k i)) (s := { s with heap := h1.push (seqObj "list" acc.toList.toArray 0), toks := tk1 }) hL (by rw [List.length_map, List.length_range]; exact hal.symm) hz ?al ?so ?un
    (keyH_turns (s := { s with heap := h1.push (seqObj "list" acc.toList.toArray 0), toks := tk1 }) eR fun v x hR hx h tk kp => ?_) fun h' tk out c kp hD ko => ⟨_, rfl, ?_⟩
  case al =>
    intro d hd d' hd'
    obtain ⟨i, _, rfl⟩ := List.mem_map.mp hd
    obtain ⟨j, _, rfl⟩ := List.mem_map.mp hd'
    rfl
  case so =>
    refine .inr fun d hd => ?_
    obtain ⟨i, _, rfl⟩ := List.mem_map.mp hd
    exact ⟨(fun e => nomatch e), (fun xs e => nomatch e)⟩
  case un =>
    intro d hd
    obtain ⟨i, _, rfl⟩ := List.mem_map.mp hd
    show A.units + 1 + 1 + 0 < cLine
    omega
  · obtain ⟨tt, rfl⟩ := hR
    exact turn x tt (List.mem_range.mp hx) h tk (up kp)
  · refine wpAny_pure ⟨_, rfl, ?_⟩
    refine fin out c h1 h' tk h1.objs.size hk (fun b o q => kp b o (Nat.ne_of_lt (Heap.lt_size q)) (Heap.get?_push_of_some _ q)) (Nat.le_refl _) hD ?_ (keyedOut_each (fun i => PyData.int (k i)) ko eR)
    · exact (ko.length (by rw [List.length_map, List.length_range]; exact hal.symm)).trans hal
end
/-! ### the order -/
def leK (k : Nat → Int) (i j : Nat) : Bool := decide (k i ≤ k j)
def orderOf (ns : List Int) : List Nat := (List.range ns.length).mergeSort (leK fun i => ns.getD i 0)
theorem dataLe_int (k : Nat → Int) (i j : Nat) : dataLe false (fun i => PyData.int (k i)) i j = leK k i j := by
  show (!(decide (k j < k i) || (!decide (k i < k j) && false))) = decide (k i ≤ k j)
  rw [Bool.and_false, Bool.or_false]
  by_cases h : k j < k i
  · rw [decide_eq_true h, decide_eq_false (by omega)]
    rfl
  · rw [decide_eq_false h, decide_eq_true (by omega)]
    rfl
theorem vals_each {out : List Value} {is : List Nat} (h : EachIs (fun v (i : Nat) => ∃ t, v = .int (i : Int) t) out is) : L2.Vals (is.map fun (i : Nat) => L2.V.int (i : Int)) out := by
  induction h with
  | nil => exact .nil
  | cons h _ ih => exact .cons h ih
end Fp
namespace Fp
open PySem PySem.Spec PyProof.Rows L2 LamX
section
variable {X : Cx}
theorem cr_range1 : CallR X (.type "range") (fun vs H Q => ∃ j, vs = [V.int j] ∧ ∀ p, H p = none → Q (.ref p) (upd H p (.rng 0 j))) := by
  intro pins s σ H vs us Q I r h
  obtain ⟨j, rfl, q⟩ := h
  obtain ⟨u, rfl, t, rfl⟩ := vals1 r
  refine call_range_1 ⟨.ref s.heap.objs.size, upd H s.heap.objs.size (.rng 0 j), I.laid (t' := s.toks + 1 + 1) (fun b o e => Heap.get?_push_of_some _ e) (Nat.le_refl _) ?_, rfl, q _ (I.hok.fresh (Nat.le_refl _))⟩
  exact ⟨_, _, _, Heap.get?_push_size _ rfl⟩
/-- sorted(range(len(xs)), key=lambda i: xs[i]): l in slot iL holds xs -/
def tSortLam (T : List (Addr × Str)) (iL : Nat) (ta : TA) : TE := fun σ H Q => ta σ H fun vs H1 => ∃ (r l : Addr) (ns : List Int), vs = [.ref r] ∧ H1 r = some (.rng 0 (ns.length : Int)) ∧ Tabs T H1 ∧ σ[iL]? = some (some (.ref l)) ∧ H1 l = some (.lst (ns.map V.int)) ∧ ns.length ≤ 1000 ∧
  ∀ p H2, ExtN H1 H2 → Tabs T H2 → H2 p = none → Q (.ref p) (upd H2 p (.lst ((orderOf ns).map fun (i : Nat) => V.int (i : Int))))
theorem pe_sortLam {T : List (Addr × Str)} {c P : Addr} {iL k : Nat} {e : Expr} {ta : TA} {params : Arguments} {scope : Scope} {xL xP : Str} {p p1 p2 p3 lpos kpos pos : Pos} (hg : Gl X "sorted") (hm : X.mg "sorted" = none) (ha : PA X [e] ta)
    (TB : TabB X.base X.mg c P) (hcode : X.env.code = .ref c) (hmT : (P, X.env.qual ++ "<lambda>") ∈ T) (hu : ∀ p ∈ T, p.1 = P → p.2 = X.env.qual ++ "<lambda>") (hr : Room k X.A) (hN : X.N[iL]? = some xL)
    (hcalm : X.calm = true)
    (hcL : X.env.scope.names.lookup xL = some .cell) (hkind : scope.kind = .function) (hco : scope.isCoroutine = false) (hgen : scope.isGenerator = false) (hnm : scope.names = [(xP, .local), (xL, .free)]) (hne : (xP == xL) = false)
    (hdef : defaultsOf params X.env = ([], []))
    (hbind : ∀ (q : Str) (cl : List (Str × Addr)) (pm cv ctv v : Value), bindArgs (PySem.W.kla_fn "<lambda>" q params (.Subscript (.Name xL p1) (.Name xP p2) p3) scope cl pm cv ctv) ⟨[v], []⟩ = pure [(xP, v)])
    (hd1 : (xL == ("__debug__" : Str)) = false := by decide) (hd2 : (xP == ("__debug__" : Str)) = false := by decide) (hd3 : (xL == ("__classdict__" : Str)) = false := by decide)
    (he : backTo pos (starEach [e] X.env) = (false, eval e X.env) :: backTo pos (starEach [] X.env) := by rfl) (hpl : (backTo pos (starEach [e] X.env)).any (·.1) = false := by rfl) :
    PE X (.Call (.Name "sorted" p) [e] [⟨some "key", .Lambda params (.Subscript (.Name xL p1) (.Name xP p2) p3) scope lpos, kpos⟩] pos) (tSortLam T iL ta) := by
  refine ⟨fun pins s σ H Q I h => ?_⟩
  refine wpAny_Call_Name_kw (ld_blt I hg hm (show bootBuiltins "sorted" = some (.builtin "sorted") by decide +kernel) ?_)
  refine PyProof.Rows.callWith_kw (thn (ha.run pos pins s σ H _ I h) fun us s1 ⟨vs, H1, I1, r1, q1⟩ => ?_) he hpl rfl rfl
  obtain ⟨r, l, ns, rfl, hrng, hT, hσ, hl, hlen, q⟩ := q1
  obtain ⟨u1, rfl, e1⟩ := vals1 r1
  obtain rfl : u1 = Value.ref r := e1
  show wpAny _ _ (evalAll ((do let v ← eval (.Lambda params (.Subscript (.Name xL p1) (.Name xP p2) p3) scope lpos) X.env; standAt pos; pure v) :: [])) _ _ s1
  refine wpAny_evalAll_cons (wpAny_bind (lam_make2 I1 TB hcode hmT hu hT hdef (fun y hy ey => ?_) fun f c' pm ctv H2 s2 I2 eN T2 hf hfn hfr hco2 => wpAny_bind (wpAny_standAt (wpAny_pure (wpAny_evalAll_nil ?_)))))
  · rw [hnm] at hy
    rcases List.mem_cons.mp hy with z | z
    · rw [z] at ey
      cases ey
    · rw [List.mem_singleton.mp z]
      exact I1.ok.has _ (.inl hcL)
  show wpAny _ _ (call (.builtin "sorted") [.ref r] [(Str.ofString "key", .ref f)]) _ _ _
  have hr2 : H2 r = some (.rng 0 (ns.length : Int)) := eN r _ hrng (fun ps z => by cases z)
  have hl2 : H2 l = some (.lst (ns.map V.int)) := eN l _ hl (fun ps z => by cases z)
  obtain ⟨t, u, v, hrr⟩ := I2.hok r _ hr2
  obtain ⟨hz, its, cn, hv, hget⟩ := I2.hok l _ hl2
  obtain ⟨m, hn, hloc⟩ := I2.loc
  obtain ⟨ul, rul, look⟩ := hloc iL xL (.ref l) hN hσ (.inr (.inl hcL))
  obtain rfl : ul = Value.ref l := rul
  obtain ⟨cL, hcl, hcell⟩ : ∃ cL, X.env.cells.lookup xL = some cL ∧ s2.heap.IsCell cL (some (.ref l)) := by
    rcases look with ⟨hk, _⟩ | ⟨_, c3, h1, h2⟩
    · have hk : X.env.scope.names.lookup xL = some .local := hk
      rw [hcL] at hk
      cases hk
    · exact ⟨c3, h1, h2⟩
  have hclo : (cloFrom X.env.cells scope.names []).lookup xL = some cL := by
    rw [hnm]
    show (cloFrom X.env.cells [(xL, .free)] []).lookup xL = some cL
    show ([(xL, (X.env.cells.lookup xL).getD 0)] : List (Str × Addr)).lookup xL = some cL
    rw [hcl]
    simp [List.lookup]
  obtain ⟨⟨oc, cvs, ct, hoc, hdc, hvc⟩, _, _⟩ := I2.hok c' _ hco2
  refine sorted_range_key (n := ns.length) (fun i => ns.getD i 0) (I2.ok.hd hcalm) hrr rfl (by omega) (by have := hr.un; omega) (fun i tt hi h tk kp => ?_) fun out c g h' tk p kg gh hgp hp lo each => ?_
  · have hx : (ns.map V.int)[i]? = some (.int (ns.getD i 0)) := by
      rw [List.getElem?_map, List.getElem?_eq_getElem hi, List.getD_eq_getElem?_getD, List.getElem?_eq_getElem hi]
      rfl
    obtain ⟨w', ew, tx, rfl⟩ := hv.get hx
    obtain ⟨oC, hoC, hdC⟩ := hcell
    refine key_turn (A := X.A.in1.in1) (cL := cL) (a := l) (its := its.toArray) (by show X.A.depth < recursionLimit; have := hr.dp; omega) (kp _ _ hf) hkind hco hgen ?_ ?_ ?_ hclo ⟨oC, kp _ _ hoC, hdC⟩ ⟨oc, cvs, ct, kp _ _ hoc, hdc, hvc⟩ (fun v => hbind _ _ _ _ _ v) (I2.nolimit.keeps kp) ⟨_, kp _ _ hget, rfl, cn, rfl⟩ (by omega) (by omega) (by simpa using ew) hd1 hd2 hd3
    · intro y hy
      rw [hnm] at hy
      rcases List.mem_cons.mp hy with z | z
      · rw [z]
        exact (fun e => nomatch e)
      · rw [List.mem_singleton.mp z]
        exact (fun e => nomatch e)
    · rw [hnm]
      simp [List.lookup]
    · rw [hnm]
      have : (xL == xP) = false := by
        rw [← Bool.not_eq_true] at hne ⊢
        intro z
        exact hne (by rw [beq_iff_eq] at z ⊢; exact z.symm)
      simp [List.lookup, this]
  · have I3 : Inv X pins σ H2 { s2 with heap := g, toks := tk } := I2.kept kg
    have fr : H2 p = none := I3.hok.fresh hgp
    have each2 : PySem.W.EachIs (fun v (i : Nat) => ∃ t, v = .int (i : Int) t) out (orderOf ns) := by
      have es : (List.range ns.length).mergeSort (PySem.W.dataLe false fun i => PyData.int (ns.getD i 0)) = orderOf ns := PySem.W.sort_congr fun a _ b _ => dataLe_int _ a b
      rw [← es]
      exact each
    have ol : (orderOf ns).length = ns.length := by
      unfold orderOf
      rw [List.length_mergeSort, List.length_range]
    have I4 : Inv X pins σ (upd H2 p (.lst ((orderOf ns).map fun (i : Nat) => V.int (i : Int)))) { s2 with heap := h', toks := tk } := I3.laid (t' := tk) gh hgp ⟨by rw [List.length_map, ol]; exact sz (by omega), out, c, vals_each each2, hp⟩
    exact ⟨.ref p, _, I4, rfl, q p H2 eN T2 fr⟩
end
end Fp

set_option Elab.async false
set_option linter.all false
set_option maxRecDepth 100000
set_option maxHeartbeats 4000000
/-! Texts of bits: slices, numbers written by twos, spoils. -/
namespace Fp
open PySem L2 PyProof.Rows
theorem cutS_upto (l : List Nat) (b : Nat) : cutS (sOf l) none (some (b : Int)) = sOf (l.take b) := by
  unfold cutS
  rw [HT.sIx_nat, sOf_len, sOf_list, HT.sIx_none]
  show sOf ((l.drop 0).take (min b l.length - 0)) = _
  rw [List.drop_zero, Nat.sub_zero]
  congr 1
  by_cases h : b ≤ l.length
  · rw [Nat.min_eq_left h]
  · rw [Nat.min_eq_right (by omega), List.take_length, List.take_of_length_le (by omega)]
theorem cutS_from (l : List Nat) (a : Nat) : cutS (sOf l) (some (a : Int)) none = sOf (l.drop a) := by
  unfold cutS
  rw [HT.sIx_nat, sOf_len, sOf_list, HT.sIx_none]
  congr 1
  by_cases h : a ≤ l.length
  · rw [Nat.min_eq_left h]
    have q : (l.drop a).length ≤ l.length - a := by
      rw [List.length_drop]
      exact Nat.le_refl _
    exact congrArg _ (List.take_of_length_le q)
  · rw [Nat.min_eq_right (by omega), Nat.sub_self, List.take_zero, List.drop_eq_nil_of_le (by omega)]
/-! ### known tests -/
theorem iteD1 {p A B : Prop} [Decidable p] (h : p) (a : A) : if decide p = true then A else B := by
  rw [decide_eq_true h]
  exact iteT a
theorem iteD0 {p A B : Prop} [Decidable p] (h : ¬ p) (b : B) : if decide p = true then A else B := by
  rw [decide_eq_false h]
  exact iteF b
theorem iteN0 {p A B : Prop} [Decidable p] (h : p) (b : B) : if (!decide p) = true then A else B := by
  rw [decide_eq_true h]
  exact iteF b
theorem iteN1 {p A B : Prop} [Decidable p] (h : ¬ p) (a : A) : if (!decide p) = true then A else B := by
  rw [decide_eq_false h]
  exact iteT a
theorem vint {i j : Int} : (V.int i = V.int j) ↔ i = j := ⟨fun h => V.int.inj h, fun h => by rw [h]⟩
theorem vstr {l m : List Nat} : (V.str (sOf l) = V.str (sOf m)) ↔ l = m := ⟨fun h => sOf_inj (V.str.inj h), fun h => by rw [h]⟩
theorem vstr1 {c d : Nat} : (V.str (sOf [c]) = V.str (sOf [d])) ↔ c = d := vstr.trans ⟨fun h => by simpa using h, fun h => by rw [h]⟩
def bitN (i : Int) : Nat := if i = 0 then 48 else 49
theorem bitN_bit (i : Int) : bitN i = 48 ∨ bitN i = 49 := by
  unfold bitN
  split
  · exact .inl rfl
  · exact .inr rfl
theorem bit_at {i : Int} (h0 : 0 ≤ i) (h1 : i < 2) : atI (Str.ofString "01").cps.toList i = some (bitN i) := by
  have : i = 0 ∨ i = 1 := by omega
  rcases this with rfl | rfl <;> rfl
theorem two_len' : (Str.ofString "01").length ≤ sizeLine := by decide
theorem sOf_at {l : List Nat} {i c : Nat} (h : l[i]? = some c) : atI (sOf l).cps.toList (i : Int) = some c := by
  rw [sOf_list]
  exact atI_nat h
--PURE
/-! ### bits -/
def Bts (l : List Nat) : Prop := ∀ c ∈ l, c = 48 ∨ c = 49
theorem Bts.app {l m : List Nat} (h : Bts l) (k : Bts m) : Bts (l ++ m) := fun c hc => by
  rcases List.mem_append.mp hc with e | e
  · exact h c e
  · exact k c e
theorem Bts.nil : Bts [] := fun _ h => nomatch h
theorem Bts.take {l : List Nat} (h : Bts l) (n : Nat) : Bts (l.take n) := fun c hc => h c (List.mem_of_mem_take hc)
theorem Bts.drop {l : List Nat} (h : Bts l) (n : Nat) : Bts (l.drop n) := fun c hc => h c (List.mem_of_mem_drop hc)
theorem Bts.one {c : Nat} (h : c = 48 ∨ c = 49) : Bts [c] := fun x hx => by
  rw [List.mem_singleton.mp hx]
  exact h
theorem Bts.rep {n c : Nat} (hc : c = 48 ∨ c = 49) : Bts (List.replicate n c) := fun x hx => by
  rw [(List.mem_replicate.mp hx).2]
  exact hc
theorem Bts.at {l : List Nat} (h : Bts l) {i c : Nat} (e : l[i]? = some c) : c = 48 ∨ c = 49 := h c (List.mem_of_getElem? e)
/-- a number by twos, m signs -/
def wrB (n m : Nat) : List Nat := (List.range m).map fun j => 48 + n / 2 ^ (m - 1 - j) % 2
theorem wrB_len (n m : Nat) : (wrB n m).length = m := by
  unfold wrB
  rw [List.length_map, List.length_range]
theorem wrB_bts (n m : Nat) : Bts (wrB n m) := fun c hc => by
  unfold wrB at hc
  obtain ⟨j, _, rfl⟩ := List.mem_map.mp hc
  omega
/-! ### spoils -/
inductive Spl where
  | turn (n : Nat)
  | lose (n : Nat)
  | put (n b : Nat)
def flipB (c : Nat) : Nat := if c = 49 then 48 else 49
def once (l : List Nat) : Spl → List Nat
  | .put n b => if n ≤ l.length then l.take n ++ b :: l.drop n else l
  | .turn n => if n < l.length then l.take n ++ flipB ((l[n]?).getD 0) :: l.drop (n + 1) else l
  | .lose n => if n < l.length then l.take n ++ l.drop (n + 1) else l
def spoilL (l : List Nat) (sps : List Spl) : List Nat := sps.foldl once l
def plc : Spl → Nat
  | .put n _ => n
  | .turn n => n
  | .lose n => n
/-- what the sign x at the place i becomes -/
def stepA (sp : Spl) (i : Nat) : List Nat := match sp with
  | .put n b => if i = n then [b] else []
  | _ => []
def stepB (sp : Spl) (i x : Nat) : List Nat := match sp with
  | .put _ _ => [x]
  | .turn n => if i = n then [flipB x] else [x]
  | .lose n => if i = n then [] else [x]
/-- place by place -/
def walkS (sp : Spl) : List Nat → Nat → List Nat
  | [], i => stepA sp i
  | x :: r, i => stepA sp i ++ stepB sp i x ++ walkS sp r (i + 1)
theorem walk_past (sp : Spl) : ∀ (l : List Nat) (i : Nat), plc sp < i → walkS sp l i = l
  | [], i, h => by
    cases sp with
    | put n b => show (if i = n then [b] else []) = []; rw [if_neg (by show ¬ i = n; have : n < i := h; omega)]
    | turn n => rfl
    | lose n => rfl
  | x :: r, i, h => by
    have ih := walk_past sp r (i + 1) (by omega)
    unfold walkS
    rw [ih]
    cases sp with
    | put n b =>
      have : n < i := h
      show (if i = n then [b] else []) ++ [x] ++ r = x :: r
      rw [if_neg (by omega)]
      rfl
    | turn n =>
      have : n < i := h
      show [] ++ (if i = n then [flipB x] else [x]) ++ r = x :: r
      rw [if_neg (by omega)]
      rfl
    | lose n =>
      have : n < i := h
      show [] ++ (if i = n then [] else [x]) ++ r = x :: r
      rw [if_neg (by omega)]
      rfl
def shift (sp : Spl) (i : Nat) : Spl := match sp with
  | .put n b => .put (n - i) b
  | .turn n => .turn (n - i)
  | .lose n => .lose (n - i)
theorem walk_once (sp : Spl) : ∀ (l : List Nat) (i : Nat), i ≤ plc sp → walkS sp l i = once l (shift sp i)
  | [], i, h => by
    cases sp with
    | put n b =>
      have : i ≤ n := h
      show (if i = n then [b] else []) = if n - i ≤ 0 then [].take (n - i) ++ b :: [].drop (n - i) else []
      by_cases e : i = n
      · rw [if_pos e, if_pos (by omega)]
        simp
      · rw [if_neg e, if_neg (by omega)]
    | turn n => rfl
    | lose n => rfl
  | x :: r, i, h => by
    unfold walkS
    by_cases e : i = plc sp
    · rw [walk_past sp r (i + 1) (by omega)]
      cases sp with
      | put n b =>
        have e : i = n := e
        subst e
        show (if i = i then [b] else []) ++ [x] ++ r = if i - i ≤ (x :: r).length then (x :: r).take (i - i) ++ b :: (x :: r).drop (i - i) else x :: r
        rw [if_pos rfl, Nat.sub_self, if_pos (Nat.zero_le _)]
        rfl
      | turn n =>
        have e : i = n := e
        subst e
        show [] ++ (if i = i then [flipB x] else [x]) ++ r = if i - i < (x :: r).length then (x :: r).take (i - i) ++ flipB (((x :: r)[i - i]?).getD 0) :: (x :: r).drop (i - i + 1) else x :: r
        rw [if_pos rfl, Nat.sub_self, if_pos (by rw [List.length_cons]; exact Nat.succ_pos _)]
        rfl
      | lose n =>
        have e : i = n := e
        subst e
        show [] ++ (if i = i then [] else [x]) ++ r = if i - i < (x :: r).length then (x :: r).take (i - i) ++ (x :: r).drop (i - i + 1) else x :: r
        rw [if_pos rfl, Nat.sub_self, if_pos (by rw [List.length_cons]; exact Nat.succ_pos _)]
        rfl
    · have lt : i + 1 ≤ plc sp := by omega
      rw [walk_once sp r (i + 1) lt]
      cases sp with
      | put n b =>
        have lt : i + 1 ≤ n := lt
        obtain ⟨k, rfl⟩ : ∃ k, n = i + 1 + k := ⟨n - (i + 1), by omega⟩
        show (if i = i + 1 + k then [b] else []) ++ [x] ++ (if i + 1 + k - (i + 1) ≤ r.length then r.take (i + 1 + k - (i + 1)) ++ b :: r.drop (i + 1 + k - (i + 1)) else r) = if i + 1 + k - i ≤ (x :: r).length then (x :: r).take (i + 1 + k - i) ++ b :: (x :: r).drop (i + 1 + k - i) else x :: r
        rw [if_neg (by omega), show i + 1 + k - (i + 1) = k by omega, show i + 1 + k - i = k + 1 by omega, List.length_cons]
        by_cases q : k ≤ r.length
        · rw [if_pos q, if_pos (by omega)]
          rfl
        · rw [if_neg q, if_neg (by omega)]
          rfl
      | turn n =>
        have lt : i + 1 ≤ n := lt
        obtain ⟨k, rfl⟩ : ∃ k, n = i + 1 + k := ⟨n - (i + 1), by omega⟩
        show [] ++ (if i = i + 1 + k then [flipB x] else [x]) ++ (if i + 1 + k - (i + 1) < r.length then r.take (i + 1 + k - (i + 1)) ++ flipB ((r[i + 1 + k - (i + 1)]?).getD 0) :: r.drop (i + 1 + k - (i + 1) + 1) else r) = if i + 1 + k - i < (x :: r).length then (x :: r).take (i + 1 + k - i) ++ flipB (((x :: r)[i + 1 + k - i]?).getD 0) :: (x :: r).drop (i + 1 + k - i + 1) else x :: r
        rw [if_neg (by omega), show i + 1 + k - (i + 1) = k by omega, show i + 1 + k - i = k + 1 by omega, List.length_cons]
        by_cases q : k < r.length
        · rw [if_pos q, if_pos (by omega)]
          rfl
        · rw [if_neg q, if_neg (by omega)]
          rfl
      | lose n =>
        have lt : i + 1 ≤ n := lt
        obtain ⟨k, rfl⟩ : ∃ k, n = i + 1 + k := ⟨n - (i + 1), by omega⟩
        show [] ++ (if i = i + 1 + k then [] else [x]) ++ (if i + 1 + k - (i + 1) < r.length then r.take (i + 1 + k - (i + 1)) ++ r.drop (i + 1 + k - (i + 1) + 1) else r) = if i + 1 + k - i < (x :: r).length then (x :: r).take (i + 1 + k - i) ++ (x :: r).drop (i + 1 + k - i + 1) else x :: r
        rw [if_neg (by omega), show i + 1 + k - (i + 1) = k by omega, show i + 1 + k - i = k + 1 by omega, List.length_cons]
        by_cases q : k < r.length
        · rw [if_pos q, if_pos (by omega)]
          rfl
        · rw [if_neg q, if_neg (by omega)]
          rfl
theorem walk_is (sp : Spl) (l : List Nat) : walkS sp l 0 = once l sp := by
  rw [walk_once sp l 0 (Nat.zero_le _)]
  cases sp <;> rfl
theorem once_len (l : List Nat) (sp : Spl) : (once l sp).length ≤ l.length + 1 := by
  cases sp with
  | put n b =>
    show (if n ≤ l.length then l.take n ++ b :: l.drop n else l).length ≤ _
    split
    · rw [List.length_append, List.length_cons, List.length_take, List.length_drop]
      omega
    · omega
  | turn n =>
    show (if n < l.length then l.take n ++ flipB ((l[n]?).getD 0) :: l.drop (n + 1) else l).length ≤ _
    split
    · rw [List.length_append, List.length_cons, List.length_take, List.length_drop]
      omega
    · omega
  | lose n =>
    show (if n < l.length then l.take n ++ l.drop (n + 1) else l).length ≤ _
    split
    · rw [List.length_append, List.length_take, List.length_drop]
      omega
    · omega
def BitS : Spl → Prop
  | .put _ b => b = 48 ∨ b = 49
  | _ => True
theorem flipB_bit (c : Nat) : flipB c = 48 ∨ flipB c = 49 := by
  unfold flipB
  split
  · exact .inl rfl
  · exact .inr rfl
theorem once_bts {l : List Nat} {sp : Spl} (h : Bts l) (hs : BitS sp) : Bts (once l sp) := by
  cases sp with
  | put n b =>
    show Bts (if n ≤ l.length then l.take n ++ b :: l.drop n else l)
    split
    · exact (h.take n).app (fun c hc => by
        rcases List.mem_cons.mp hc with e | e
        · rw [e]; exact hs
        · exact h.drop n c e)
    · exact h
  | turn n =>
    show Bts (if n < l.length then l.take n ++ flipB ((l[n]?).getD 0) :: l.drop (n + 1) else l)
    split
    · exact (h.take n).app (fun c hc => by
        rcases List.mem_cons.mp hc with e | e
        · rw [e]; exact flipB_bit _
        · exact h.drop _ c e)
    · exact h
  | lose n =>
    show Bts (if n < l.length then l.take n ++ l.drop (n + 1) else l)
    split
    · exact (h.take n).app (h.drop _)
    · exact h
end Fp

set_option Elab.async false
set_option linter.all false
set_option maxRecDepth 100000
set_option maxHeartbeats 4000000
/-! The laws' bags of four numbers; texts times an int. -/
namespace Fp
open PySem L2 PyProof.Rows
def Bag4 (H : Hp) (b : Addr) : Prop := ∃ g s p k : Int, H b = some (.lst [.int g, .int s, .int p, .int k]) ∧ 0 ≤ g ∧ 0 ≤ s ∧ s < 2147483648 ∧ 0 < p ∧ p < 2147483648
def Bx4 (b : Addr) (H H' : Hp) : Prop := Bag4 H' b ∧ ∀ a o, a ≠ b → H a = some o → H' a = some o
theorem Bx4.refl {b : Addr} {H : Hp} (h : Bag4 H b) : Bx4 b H H := ⟨h, fun _ _ _ e => e⟩
theorem Bx4.trans {b : Addr} {H H1 H2 : Hp} (x : Bx4 b H H1) (y : Bx4 b H1 H2) : Bx4 b H H2 := ⟨y.1, fun a o n e => y.2 a o n (x.2 a o n e)⟩
theorem Bx4.drawn {b : Addr} {H : Hp} {g s p k : Int} (g0 : 0 ≤ g) (s0 : 0 ≤ s) (s1 : s < 2147483648) (p0 : 0 < p) (p1 : p < 2147483648) : Bx4 b H (upd H b (.lst [.int g, .int s, .int p, .int k])) := ⟨⟨g, s, p, k, upd_same, g0, s0, s1, p0, p1⟩, fun a o n e => by
  rw [upd_ne n]
  exact e⟩
theorem Bx4.same {b : Addr} {H H1 H2 : Hp} (x : Bx4 b H H1) (y : Same H1 H2) : Bx4 b H H2 := by
  obtain ⟨⟨g, s, p, k, h, r⟩, m⟩ := x
  exact ⟨⟨g, s, p, k, y _ _ h, r⟩, fun a o n e => y _ _ (m a o n e)⟩
theorem Bx4.back {b : Addr} {H0 H H' : Hp} (x : Bx4 b H H') (y : Same H0 H) (n : H0 b = none) : Same H0 H' := fun a o e => x.2 a o (ne_of_none e n) (y a o e)
theorem Bx4.mut {b p : Addr} {H H' : Hp} {o : HO} (x : Bx4 b H H') (hp : H p = none) (n : p ≠ b) : Bx4 b H (upd H' p o) := by
  obtain ⟨⟨g, s, r, k, h, c⟩, m⟩ := x
  refine ⟨⟨g, s, r, k, by rw [upd_ne n.symm]; exact h, c⟩, fun a u z e => ?_⟩
  rw [upd_ne (ne_of_none e hp)]
  exact m a u z e
theorem Bag4.ne {H : Hp} {b p : Addr} (h : Bag4 H b) (n : H p = none) : p ≠ b := by
  obtain ⟨g, s, r, k, e, _⟩ := h
  exact (ne_of_none e n).symm
theorem Bx4.free {b p : Addr} {H H' : Hp} (x : Bx4 b H H') (h : H' p = none) : H p = none := by
  have n : p ≠ b := x.1.ne h
  cases q : H p with
  | none => rfl
  | some o =>
    rw [x.2 p o n q] at h
    cases h
theorem Bag4.tup {H : Hp} {b a : Addr} {xs : List V} (h : Bag4 H b) (e : H a = some (.tup xs)) : a ≠ b := fun z => by
  obtain ⟨g, s, r, k, e2, _⟩ := h
  rw [z, e2] at e
  cases e
theorem mul_list (l : List Nat) (n : Int) (h : 0 ≤ n) : Txt.mul (sOf l) n = sOf (List.replicate n.toNat l).flatten := by
  obtain ⟨k, rfl⟩ := Int.eq_ofNat_of_zero_le h
  apply of_list
  unfold Txt.mul
  have main : ∀ (k : Nat) (acc : Array Nat), (List.foldl (· ++ ·) acc (List.replicate k (sOf l).cps)).toList = acc.toList ++ (List.replicate k l).flatten := by
    intro k
    induction k with
    | zero => intro acc; simp
    | succ k ih =>
      intro acc
      rw [List.replicate_succ, List.foldl_cons, ih, List.replicate_succ, List.flatten_cons]
      simp [sOf]
  split
  · have : k = 0 := by omega
    subst this
    rfl
  · split
    · rename_i _ e
      rw [sOf_list, Int.toNat_natCast]
      simp only [Bool.or_eq_true, beq_iff_eq] at e
      rcases e with e | e
      · have : k = 1 := by omega
        subst this
        simp
      · rw [sOf_len] at e
        have : l = [] := List.length_eq_zero_iff.mp e
        subst this
        simp
    · rw [Int.toNat_natCast]
      have := main k #[]
      simpa using this
section
variable {X : Cx}
theorem op_mulT : OpR X (binaryOp .Mult) (fun x y H Q => ∃ (l : List Nat) (n : Int), x = .str (sOf l) ∧ y = .int n ∧ (0 ≤ n ∧ n ≤ 10000 ∧ l.length ≤ 1000) ∧ Q (.str (sOf (List.replicate n.toNat l).flatten)) H) := by
  intro pins s σ H x y v u Q I rx ry h
  obtain ⟨l, n, rfl, rfl, hz, q⟩ := h
  obtain ⟨t, rfl⟩ := rx
  obtain ⟨t', rfl⟩ := ry
  refine SB.mul (mulOk_of 1000 10000 (by rw [sOf_len]; exact hz.2.2) (by omega) (by omega) (by decide) (by decide)) fun t' k => ?_
  rw [mul_list l n hz.1]
  exact ⟨.str _, H, I.tok _, ⟨_, rfl⟩, q⟩
end
theorem flat_len {l : List Nat} (n : Nat) : (List.replicate n l).flatten.length = n * l.length := by
  induction n with
  | zero => simp
  | succ k ih => rw [List.replicate_succ, List.flatten_cons, List.length_append, ih, Nat.succ_mul]; omega
theorem flat_bts {l : List Nat} (h : Bts l) (n : Nat) : Bts (List.replicate n l).flatten := fun c hc => by
  obtain ⟨m, hm, hc⟩ := List.mem_flatten.mp hc
  rw [(List.mem_replicate.mp hm).2] at hc
  exact h c hc
theorem str_bit (k : Nat) (h : k < 2) : (toString ((k : Nat) : Int) : Str) = sOf [48 + k] := by
  have : k = 0 ∨ k = 1 := by omega
  rcases this with rfl | rfl <;> decide +kernel
/-- texts joined by nothing -/
theorem join_flat : ∀ ls : List (List Nat), Txt.join (Str.ofString "") (ls.map sOf) = sOf ls.flatten := by
  intro ls
  show Builtin.Str.glued (Str.ofString "") (ls.map sOf) = sOf ls.flatten
  rw [StrLaws.glued_eq_join]
  induction ls with
  | nil => rfl
  | cons c r ih =>
    cases r with
    | nil =>
      show sOf c = sOf [c].flatten
      simp
    | cons d r =>
      show sOf c ++ Str.ofString "" ++ Str.join (Str.ofString "") (List.map sOf (d :: r)) = sOf (c :: d :: r).flatten
      rw [ih, show (Str.ofString "") = sOf [] from rfl, sOf_app, sOf_app, List.append_nil]
      rfl
theorem lens_sum (ls : List (List Nat)) : ((ls.map sOf).map (·.length)).sum = ls.flatten.length := by
  induction ls with
  | nil => rfl
  | cons c r ih =>
    rw [List.map_cons, List.map_cons, List.sum_cons, ih, sOf_len, List.flatten_cons, List.length_append]
theorem join_flat_size {ls : List (List Nat)} (h : ls.flatten.length ≤ 100000) : ((ls.map sOf).map (·.length)).sum + (ls.map sOf).length * (Str.ofString "").length ≤ 16777216 := by
  rw [lens_sum, show (Str.ofString "").length = 0 from rfl]
  omega
theorem sV_strs (ls : List (List Nat)) : ls.map sV = (ls.map sOf).map V.str := by
  rw [List.map_map]
  rfl
theorem flatten_snoc {ls : List (List Nat)} {l : List Nat} : (ls ++ [l]).flatten = ls.flatten ++ l := by simp
end Fp

set_option Elab.async false
set_option linter.all false
set_option maxRecDepth 100000
set_option maxHeartbeats 4000000
/-! Rests of bits: what bits come to by the seventeen; list(range(n)). -/
namespace Fp
open PySem L2 PyProof.Rows
--PURE
/-- once more by two, by the seventeen bits -/
def dblG (a : Nat) : Nat := (a <<< 1) ^^^ (if a.testBit 15 then 98309 else 0)
def pwG : Nat → Nat → Nat
  | 0, a => a
  | n + 1, a => pwG n (dblG a)
/-- what bits come to, with a ahead -/
def hnG (a : Nat) (l : List Nat) : Nat := l.foldl (fun a c => dblG a ^^^ (if c = 49 then 1 else 0)) a
def vlG (l : List Nat) : Nat := hnG 0 l
def rdG (j : Nat) : Nat := pwG j 1
theorem dblG_zero : dblG 0 = 0 := by decide
theorem dblG_xor (a b : Nat) : dblG (a ^^^ b) = dblG a ^^^ dblG b := by
  unfold dblG
  rw [Nat.shiftLeft_xor_distrib, Nat.testBit_xor]
  cases a.testBit 15 <;> cases b.testBit 15 <;> apply Nat.eq_of_testBit_eq <;> intro i <;> simp only [Nat.testBit_xor, Bool.xor_true, Bool.xor_false, Bool.not_false, Bool.not_true, if_true, if_false, Bool.false_eq_true, Nat.zero_testBit] <;> cases (a <<< 1).testBit i <;> cases (b <<< 1).testBit i <;> cases Nat.testBit 98309 i <;> rfl
theorem dblG_lt {a : Nat} (h : a < 65536) : dblG a < 65536 := by
  unfold dblG
  have e : a <<< 1 = 2 * a := by rw [Nat.shiftLeft_eq]; omega
  by_cases z : a < 32768
  · have : a.testBit 15 = false := Nat.testBit_lt_two_pow (by omega)
    rw [this, e]
    simp
    omega
  · have hb : a.testBit 15 = true := by
      rw [Nat.testBit_eq_decide_div_mod_eq]
      exact decide_eq_true (by omega)
    rw [hb, e, if_pos rfl]
    refine Nat.lt_pow_two_of_testBit _ (n := 16) fun i hi => ?_
    rw [Nat.testBit_xor]
    by_cases i16 : i = 16
    · subst i16
      have h1 : (2 * a).testBit 16 = true := by
        rw [Nat.testBit_eq_decide_div_mod_eq]
        exact decide_eq_true (by omega)
      rw [h1]
      decide
    · have h17 : 2 ^ 17 ≤ 2 ^ i := Nat.pow_le_pow_right (by omega) (by omega)
      have h1 : (2 * a).testBit i = false := Nat.testBit_lt_two_pow (by omega)
      have h2 : Nat.testBit 98309 i = false := Nat.testBit_lt_two_pow (by omega)
      rw [h1, h2]
      rfl
theorem dblG_small {a : Nat} (h : a < 32768) : dblG a = 2 * a := by
  unfold dblG
  have : a.testBit 15 = false := Nat.testBit_lt_two_pow (by omega)
  rw [this, Nat.shiftLeft_eq]
  simp
  omega
/-- no dblG of what is not 0 is 0 -/
theorem dblG_ne {a : Nat} (h : a < 65536) (e : dblG a = 0) : a = 0 := by
  by_cases z : a < 32768
  · rw [dblG_small z] at e
    omega
  · exfalso
    have hb : a.testBit 15 = true := by
      rw [Nat.testBit_eq_decide_div_mod_eq]
      exact decide_eq_true (by omega)
    have := congrArg (fun x => Nat.testBit x 0) e
    unfold dblG at this
    rw [hb, if_pos rfl] at this
    have h1 : Nat.testBit 98309 0 = true := by decide
    rw [Nat.testBit_xor, Nat.testBit_shiftLeft, h1, Nat.zero_testBit] at this
    simp at this
theorem pwG_zero : ∀ n, pwG n 0 = 0
  | 0 => rfl
  | n + 1 => by
    show pwG n (dblG 0) = 0
    rw [dblG_zero, pwG_zero n]
theorem pwG_xor : ∀ (n a b : Nat), pwG n (a ^^^ b) = pwG n a ^^^ pwG n b
  | 0, _, _ => rfl
  | n + 1, a, b => by
    show pwG n (dblG (a ^^^ b)) = pwG n (dblG a) ^^^ pwG n (dblG b)
    rw [dblG_xor, pwG_xor n]
theorem pwG_lt : ∀ (n : Nat) {a : Nat}, a < 65536 → pwG n a < 65536
  | 0, _, h => h
  | n + 1, _, h => pwG_lt n (dblG_lt h)
theorem pwG_ne : ∀ (n : Nat) {a : Nat}, a < 65536 → pwG n a = 0 → a = 0
  | 0, _, _, e => e
  | n + 1, _, h, e => dblG_ne h (pwG_ne n (dblG_lt h) e)
theorem pwG_dbl : ∀ (n a : Nat), pwG n (dblG a) = dblG (pwG n a)
  | 0, _ => rfl
  | n + 1, a => by
    show pwG n (dblG (dblG a)) = dblG (pwG n (dblG a))
    rw [pwG_dbl n (dblG a)]
theorem pwG_add (m n a : Nat) : pwG (m + n) a = pwG m (pwG n a) := by
  induction n generalizing a with
  | zero => rfl
  | succ n ih => exact ih (dblG a)
theorem rdG_lt (j : Nat) : rdG j < 65536 := pwG_lt j (by decide)
/-- the seventeen -/
theorem rdG_rec (j : Nat) : rdG (j + 16) ^^^ rdG (j + 15) ^^^ rdG (j + 2) ^^^ rdG j = 0 := by
  unfold rdG
  rw [pwG_add j 16, pwG_add j 15, pwG_add j 2, ← pwG_xor, ← pwG_xor, ← pwG_xor]
  have e : pwG 16 1 ^^^ pwG 15 1 ^^^ pwG 2 1 ^^^ 1 = 0 := by decide
  rw [e, pwG_zero]
theorem hnG_app (a : Nat) (l m : List Nat) : hnG a (l ++ m) = hnG (hnG a l) m := by
  unfold hnG
  rw [List.foldl_append]
theorem xor4 (a b c d : Nat) : (a ^^^ b) ^^^ (c ^^^ d) = (a ^^^ c) ^^^ (b ^^^ d) := by
  rw [Nat.xor_assoc, ← Nat.xor_assoc b c d, Nat.xor_comm b c, Nat.xor_assoc c b d, ← Nat.xor_assoc]
theorem hnG_lin : ∀ (l : List Nat) (a : Nat), hnG a l = pwG l.length a ^^^ hnG 0 l
  | [], a => by
    show a = a ^^^ 0
    rw [Nat.xor_zero]
  | c :: r, a => by
    show hnG (dblG a ^^^ (if c = 49 then 1 else 0)) r = pwG r.length (dblG a) ^^^ hnG (dblG 0 ^^^ (if c = 49 then 1 else 0)) r
    rw [hnG_lin r (dblG a ^^^ _), hnG_lin r (dblG 0 ^^^ _), pwG_xor, pwG_xor, dblG_zero, pwG_zero, Nat.zero_xor, Nat.xor_assoc]
theorem vlG_app (l m : List Nat) : vlG (l ++ m) = pwG m.length (vlG l) ^^^ vlG m := by
  unfold vlG
  rw [hnG_app, hnG_lin m]
theorem hnG_lt : ∀ (l : List Nat) {a : Nat}, a < 65536 → hnG a l < 65536
  | [], _, h => h
  | c :: r, a, h => by
    refine hnG_lt r (a := dblG a ^^^ (if c = 49 then 1 else 0)) ?_
    refine Nat.xor_lt_two_pow (n := 16) (dblG_lt h) ?_
    split <;> decide
theorem vlG_lt (l : List Nat) : vlG l < 65536 := hnG_lt l (by decide)
theorem vlG_zeros (n : Nat) : vlG (List.replicate n 48) = 0 := by
  induction n with
  | zero => rfl
  | succ n ih =>
    show hnG (dblG 0 ^^^ (if 48 = 49 then 1 else 0)) (List.replicate n 48) = 0
    rw [dblG_zero]
    exact ih
theorem vlG_ahead (n : Nat) (l : List Nat) : vlG (List.replicate n 48 ++ l) = vlG l := by
  rw [vlG_app, vlG_zeros, pwG_zero, Nat.zero_xor]
def flpN (c : Nat) : Nat := if c = 49 then 48 else 49
/-- the bit at a place turned -/
def flipA (l : List Nat) (p : Nat) : List Nat := l.set p (flpN ((l[p]?).getD 0))
def flips (l : List Nat) (ps : List Nat) : List Nat := ps.foldl flipA l
theorem flipA_len (l : List Nat) (p : Nat) : (flipA l p).length = l.length := List.length_set ..
theorem flips_len (ps : List Nat) : ∀ l : List Nat, (flips l ps).length = l.length := by
  induction ps with
  | nil => exact fun _ => rfl
  | cons p r ih =>
    intro l
    show (flips (flipA l p) r).length = l.length
    rw [ih, flipA_len]
def Bt (l : List Nat) : Prop := ∀ c ∈ l, c = 48 ∨ c = 49
theorem flipA_bt {l : List Nat} (h : Bt l) (p : Nat) : Bt (flipA l p) := fun c hc => by
  rcases List.mem_or_eq_of_mem_set hc with e | e
  · exact h c e
  · rw [e]
    unfold flpN
    split
    · exact .inl rfl
    · exact .inr rfl
theorem flips_bt (ps : List Nat) : ∀ {l : List Nat}, Bt l → Bt (flips l ps) := by
  induction ps with
  | nil => exact fun h => h
  | cons p r ih => exact fun h => ih (flipA_bt h p)
theorem vlG_flipA {l : List Nat} (hb : Bt l) {p : Nat} (hp : p < l.length) : vlG (flipA l p) = vlG l ^^^ rdG (l.length - 1 - p) := by
  have e0 : l = l.take p ++ l[p] :: l.drop (p + 1) := by
    rw [← List.drop_eq_getElem_cons hp, List.take_append_drop]
  have e1 : flipA l p = l.take p ++ flpN l[p] :: l.drop (p + 1) := by
    unfold flipA
    rw [List.set_eq_take_append_cons_drop, if_pos hp, List.getElem?_eq_getElem hp]
    rfl
  have key : ∀ c, c = 48 ∨ c = 49 → vlG (l.take p ++ flpN c :: l.drop (p + 1)) = vlG (l.take p ++ c :: l.drop (p + 1)) ^^^ rdG (l.length - 1 - p) := by
    intro c hc
    have one : ∀ d, vlG (l.take p ++ d :: l.drop (p + 1)) = pwG (l.length - 1 - p) (dblG (vlG (l.take p))) ^^^ pwG (l.length - 1 - p) (if d = 49 then 1 else 0) ^^^ vlG (l.drop (p + 1)) := by
      intro d
      have : vlG (l.take p ++ d :: l.drop (p + 1)) = hnG (dblG (vlG (l.take p)) ^^^ (if d = 49 then 1 else 0)) (l.drop (p + 1)) := by
        unfold vlG
        rw [hnG_app]
        rfl
      rw [this, hnG_lin, pwG_xor, List.length_drop, show l.length - (p + 1) = l.length - 1 - p by omega]
      rfl
    rw [one, one]
    have e2 : pwG (l.length - 1 - p) (if flpN c = 49 then 1 else 0) = pwG (l.length - 1 - p) (if c = 49 then 1 else 0) ^^^ rdG (l.length - 1 - p) := by
      unfold rdG
      rw [← pwG_xor]
      rcases hc with rfl | rfl <;> rfl
    rw [e2]
    simp only [Nat.xor_assoc]
    rw [Nat.xor_comm (rdG _) (vlG _)]
  rw [e1, key _ (hb _ (List.getElem_mem hp)), ← e0]
/-- what the places come to -/
def xsG (n : Nat) (ps : List Nat) : Nat := ps.foldl (fun a p => a ^^^ rdG (n - 1 - p)) 0
theorem xs_from (n : Nat) : ∀ (ps : List Nat) (a : Nat), ps.foldl (fun a p => a ^^^ rdG (n - 1 - p)) a = a ^^^ xsG n ps
  | [], a => by
    show a = a ^^^ 0
    rw [Nat.xor_zero]
  | p :: r, a => by
    have h : xsG n (p :: r) = r.foldl (fun a p => a ^^^ rdG (n - 1 - p)) (0 ^^^ rdG (n - 1 - p)) := rfl
    rw [h]
    show r.foldl (fun a p => a ^^^ rdG (n - 1 - p)) (a ^^^ rdG (n - 1 - p)) = _
    rw [xs_from n r (a ^^^ rdG (n - 1 - p)), xs_from n r (0 ^^^ rdG (n - 1 - p)), Nat.zero_xor, Nat.xor_assoc]
theorem xs_cons (n p : Nat) (r : List Nat) : xsG n (p :: r) = rdG (n - 1 - p) ^^^ xsG n r := by
  have h : xsG n (p :: r) = r.foldl (fun a p => a ^^^ rdG (n - 1 - p)) (0 ^^^ rdG (n - 1 - p)) := rfl
  rw [h, xs_from, Nat.zero_xor]
theorem vlG_flips : ∀ (ps : List Nat) {l : List Nat}, Bt l → (∀ p ∈ ps, p < l.length) → vlG (flips l ps) = vlG l ^^^ xsG l.length ps
  | [], l, _, _ => by
    show vlG l = vlG l ^^^ 0
    rw [Nat.xor_zero]
  | p :: r, l, hb, h => by
    show vlG (flips (flipA l p) r) = _
    rw [vlG_flips r (flipA_bt hb p) (fun q hq => by rw [flipA_len]; exact h q (List.mem_cons_of_mem _ hq)), vlG_flipA hb (h p (List.mem_cons_self ..)), flipA_len, xs_cons, Nat.xor_assoc]
/-- the four places -/
theorem xs_four {n b : Nat} (h : b + 16 < n) : xsG n [b, b + 1, b + 14, b + 16] = 0 := by
  rw [xs_cons, xs_cons, xs_cons, xs_cons]
  have e : xsG n [] = 0 := rfl
  obtain ⟨j, hj⟩ : ∃ j, n - 1 - (b + 16) = j := ⟨_, rfl⟩
  rw [e, Nat.xor_zero, hj, show n - 1 - b = j + 16 by omega, show n - 1 - (b + 1) = j + 15 by omega, show n - 1 - (b + 14) = j + 2 by omega, ← Nat.xor_assoc, ← Nat.xor_assoc]
  exact rdG_rec j
/-! ### what is told -/
theorem xor_eq_zero {a b : Nat} (h : a ^^^ b = 0) : a = b := by
  have := congrArg (· ^^^ b) h
  simpa [Nat.xor_assoc] using this
theorem rdG_ne (j : Nat) : rdG j ≠ 0 := fun e => absurd (pwG_ne j (by decide) e) (by decide)
def itG : Nat → Nat → List Nat
  | 0, _ => []
  | n + 1, a => a :: itG n (dblG a)
theorem itG_mem : ∀ (n a k : Nat), k < n → pwG k a ∈ itG n a
  | 0, _, k, h => absurd h (by omega)
  | n + 1, a, 0, _ => List.mem_cons_self ..
  | n + 1, a, k + 1, h => List.mem_cons_of_mem _ (itG_mem n (dblG a) k (by omega))
theorem no_one : (itG 1100 2).all (fun x => x != 1) = true := by decide +kernel
theorem rdG_one {k : Nat} (h0 : 0 < k) (h1 : k ≤ 1100) : rdG k ≠ 1 := fun e => by
  have h := List.all_eq_true.mp no_one (rdG k) (by
    obtain ⟨j, rfl⟩ : ∃ j, k = j + 1 := ⟨k - 1, by omega⟩
    exact itG_mem 1100 2 j (by omega))
  rw [e] at h
  exact absurd h (by decide)
theorem rdG_inj {i j : Nat} (h : i < j) (hj : j ≤ 1100) : rdG i ≠ rdG j := fun e => by
  have e2 : pwG i (1 ^^^ rdG (j - i)) = 0 := by
    rw [pwG_xor]
    show rdG i ^^^ pwG i (pwG (j - i) 1) = 0
    rw [← pwG_add, show i + (j - i) = j by omega]
    show rdG i ^^^ rdG j = 0
    rw [e, Nat.xor_self]
  have := pwG_ne i (Nat.xor_lt_two_pow (n := 16) (by decide) (rdG_lt _)) e2
  exact rdG_one (k := j - i) (by omega) (by omega) (xor_eq_zero this).symm
theorem xs_one (n p : Nat) : xsG n [p] ≠ 0 := by
  rw [xs_cons]
  show rdG _ ^^^ 0 ≠ 0
  rw [Nat.xor_zero]
  exact rdG_ne _
theorem xs_two {n p q : Nat} (hp : p < n) (hq : q < n) (hn : n ≤ 1100) (h : p ≠ q) : xsG n [p, q] ≠ 0 := by
  rw [xs_cons, xs_cons]
  show rdG _ ^^^ (rdG _ ^^^ 0) ≠ 0
  rw [Nat.xor_zero]
  intro e
  have e := xor_eq_zero e
  rcases Nat.lt_or_gt_of_ne h with z | z
  · exact rdG_inj (i := n - 1 - q) (j := n - 1 - p) (by omega) (by omega) e.symm
  · exact rdG_inj (i := n - 1 - p) (j := n - 1 - q) (by omega) (by omega) e
/-- odd numbers of 1s -/
def parL (is : List Nat) (n : Nat) : Bool := is.foldl (fun a i => a ^^ n.testBit i) false
def parG (n : Nat) : Bool := parL (List.range 16) n
theorem parL_from (n : Nat) : ∀ (is : List Nat) (a : Bool), is.foldl (fun a i => a ^^ n.testBit i) a = (a ^^ parL is n)
  | [], a => by cases a <;> rfl
  | i :: r, a => by
    have h : parL (i :: r) n = r.foldl (fun a i => a ^^ n.testBit i) (false ^^ n.testBit i) := rfl
    rw [h]
    show r.foldl (fun a i => a ^^ n.testBit i) (a ^^ n.testBit i) = _
    rw [parL_from n r (a ^^ n.testBit i), parL_from n r (false ^^ n.testBit i), Bool.false_xor, Bool.xor_assoc]
theorem parL_cons (i : Nat) (r : List Nat) (n : Nat) : parL (i :: r) n = (n.testBit i ^^ parL r n) := by
  have h : parL (i :: r) n = r.foldl (fun a i => a ^^ n.testBit i) (false ^^ n.testBit i) := rfl
  rw [h, parL_from, Bool.false_xor]
theorem parL_xor : ∀ (is : List Nat) (a b : Nat), parL is (a ^^^ b) = (parL is a ^^ parL is b)
  | [], _, _ => rfl
  | i :: r, a, b => by
    rw [parL_cons, parL_cons, parL_cons, parL_xor r a b, Nat.testBit_xor]
    cases a.testBit i <;> cases b.testBit i <;> cases parL r a <;> cases parL r b <;> rfl
theorem all_odd : (itG 1100 1).all parG = true := by decide +kernel
theorem rdG_odd {j : Nat} (h : j < 1100) : parG (rdG j) = true := List.all_eq_true.mp all_odd _ (itG_mem 1100 1 j h)
theorem xs_par {n : Nat} (hn : n ≤ 1100) : ∀ (ps : List Nat), (∀ p ∈ ps, p < n) → parG (xsG n ps) = decide (ps.length % 2 = 1)
  | [], _ => by
    show parG 0 = decide (0 % 2 = 1)
    decide
  | p :: r, h => by
    have h1 := h p (List.mem_cons_self ..)
    rw [xs_cons]
    show parL _ (_ ^^^ _) = _
    rw [parL_xor]
    show (parG _ ^^ parG _) = _
    rw [rdG_odd (by omega), xs_par hn r (fun q hq => h q (List.mem_cons_of_mem _ hq)), List.length_cons]
    by_cases z : r.length % 2 = 1
    · rw [decide_eq_true z, decide_eq_false (by omega)]
      rfl
    · rw [decide_eq_false z, decide_eq_true (by omega)]
      rfl
theorem xs_odd {n : Nat} (hn : n ≤ 1100) {ps : List Nat} (h : ∀ p ∈ ps, p < n) (o : ps.length % 2 = 1) : xsG n ps ≠ 0 := fun e => by
  have := xs_par hn ps h
  rw [e, decide_eq_true o] at this
  exact absurd this (by decide)
/-- sixteen neighbours: the places b + j, where the number has the bit j -/
def nbs (b some m : Nat) : List Nat := ((List.range m).filter fun j => decide (some / 2 ^ j % 2 = 1)).map (b + ·)
theorem xs_app (n : Nat) : ∀ (a b : List Nat), xsG n (a ++ b) = xsG n a ^^^ xsG n b
  | [], b => by
    show xsG n b = 0 ^^^ xsG n b
    rw [Nat.zero_xor]
  | p :: r, b => by
    rw [List.cons_append, xs_cons, xs_cons, xs_app n r b, Nat.xor_assoc]
theorem nbs_more (b some m : Nat) : nbs b some (m + 1) = nbs b some m ++ (if some / 2 ^ m % 2 = 1 then [b + m] else []) := by
  unfold nbs
  rw [List.range_succ, List.filter_append, List.map_append]
  congr 1
  by_cases z : some / 2 ^ m % 2 = 1 <;> simp [z]
/-- the neighbours as a number, its first place its greatest -/
def nbN (some : Nat) : Nat → Nat
  | 0 => 0
  | m + 1 => nbN some m ^^^ (if some / 2 ^ m % 2 = 1 then 2 ^ (15 - m) else 0)
theorem rdG_small : ∀ j, j ≤ 15 → rdG j = 2 ^ j := by decide +kernel
theorem xs_nbs {n b : Nat} (h : b + 15 < n) (some : Nat) : ∀ m, m ≤ 16 → xsG n (nbs b some m) = pwG (n - 1 - (b + 15)) (nbN some m)
  | 0, _ => by
    show 0 = pwG _ 0
    rw [pwG_zero]
  | m + 1, hm => by
    rw [nbs_more, xs_app, xs_nbs h some m (by omega)]
    show _ = pwG _ (nbN some m ^^^ (if some / 2 ^ m % 2 = 1 then 2 ^ (15 - m) else 0))
    rw [pwG_xor]
    congr 1
    by_cases z : some / 2 ^ m % 2 = 1
    · rw [if_pos z, if_pos z, xs_cons]
      show rdG _ ^^^ 0 = _
      rw [Nat.xor_zero, ← rdG_small (15 - m) (by omega)]
      unfold rdG
      rw [← pwG_add, show n - 1 - (b + 15) + (15 - m) = n - 1 - (b + m) by omega]
    · rw [if_neg z, if_neg z, pwG_zero]
      rfl
theorem nbN_lt (some : Nat) : ∀ m, m ≤ 16 → nbN some m < 65536
  | 0, _ => by
    show 0 < 65536
    decide
  | m + 1, h => by
    refine Nat.xor_lt_two_pow (n := 16) (nbN_lt some m (by omega)) ?_
    split
    · exact Nat.pow_lt_pow_right (by omega) (by omega)
    · decide
theorem nbN_bit (some : Nat) : ∀ m, m ≤ 16 → ∀ j, j < 16 → (nbN some m).testBit (15 - j) = (decide (j < m) && decide (some / 2 ^ j % 2 = 1))
  | 0, _, j, _ => by
    show Nat.testBit 0 _ = _
    simp
  | m + 1, h, j, hj => by
    show (nbN some m ^^^ (if some / 2 ^ m % 2 = 1 then 2 ^ (15 - m) else 0)).testBit (15 - j) = _
    rw [Nat.testBit_xor, nbN_bit some m (by omega) j hj]
    by_cases e : j = m
    · subst e
      by_cases z : some / 2 ^ j % 2 = 1
      · rw [if_pos z, Nat.testBit_two_pow_self]
        simp [z]
      · rw [if_neg z]
        simp [z]
    · have n1 : 15 - m ≠ 15 - j := by omega
      by_cases z : some / 2 ^ m % 2 = 1
      · rw [if_pos z, Nat.testBit_two_pow_of_ne n1, Bool.xor_false]
        congr 1
        exact decide_eq_decide.mpr (by omega)
      · rw [if_neg z, Nat.zero_testBit, Bool.xor_false]
        congr 1
        exact decide_eq_decide.mpr (by omega)
theorem xs_near {n b some : Nat} (h : b + 15 < n) (h0 : 0 < some) (h1 : some < 65536) : xsG n (nbs b some 16) ≠ 0 := fun e => by
  rw [xs_nbs h some 16 (Nat.le_refl _)] at e
  have z := pwG_ne _ (nbN_lt some 16 (Nat.le_refl _)) e
  have all : ∀ j, some.testBit j = false := fun j => by
    by_cases hj : j < 16
    · have := nbN_bit some 16 (Nat.le_refl _) j hj
      rw [z, Nat.zero_testBit, decide_eq_true hj, Bool.true_and] at this
      rw [Nat.testBit_eq_decide_div_mod_eq]
      exact this.symm
    · exact Nat.testBit_lt_two_pow (Nat.lt_of_lt_of_le h1 (Nat.pow_le_pow_right (n := 2) (by omega) (show 16 ≤ j by omega)))
  exact absurd (Nat.eq_of_testBit_eq (y := 0) fun j => by rw [all j, Nat.zero_testBit]) (by omega)
theorem nbs_mem {b some m p : Nat} (h : p ∈ nbs b some m) : p < b + m := by
  unfold nbs at h
  obtain ⟨j, hj, rfl⟩ := List.mem_map.mp h
  have := List.mem_range.mp (List.mem_filter.mp hj).1
  omega
/-! ### sixteen bits are known by what they come to -/
theorem vlG_small : ∀ (l : List Nat), l.length ≤ 16 → vlG l < 2 ^ l.length ∧ ∀ (m : List Nat), Bt l → Bt m → m.length = l.length → vlG l = vlG m → l = m := by
  have base : ∀ (k : Nat) (l : List Nat), l.length = k → k ≤ 16 → vlG l < 2 ^ k ∧ ∀ (m : List Nat), Bt l → Bt m → m.length = k → vlG l = vlG m → l = m := by
    intro k
    induction k with
    | zero =>
      intro l hl _
      rw [List.length_eq_zero_iff.mp hl]
      exact ⟨by decide, fun m _ _ hm _ => (List.length_eq_zero_iff.mp hm).symm⟩
    | succ k ih =>
      intro l hl hk
      have snoc : ∀ m : List Nat, m.length = k + 1 → ∃ a c, m = a ++ [c] ∧ a.length = k := fun m hm => by
        have h0 : m ≠ [] := fun e => by rw [e] at hm; cases hm
        refine ⟨m.dropLast, m.getLast h0, (List.dropLast_concat_getLast h0).symm, ?_⟩
        rw [List.length_dropLast, hm]
        rfl
      have val : ∀ (a : List Nat) (c : Nat), a.length = k → vlG (a ++ [c]) = 2 * vlG a + (if c = 49 then 1 else 0) := fun a c ha => by
        have lt := (ih a ha (by omega)).1
        have l15 : vlG a < 32768 := Nat.lt_of_lt_of_le lt (Nat.pow_le_pow_right (n := 2) (by omega) (show k ≤ 15 by omega))
        have h1 : vlG (a ++ [c]) = dblG (vlG a) ^^^ (if c = 49 then 1 else 0) := by
          unfold vlG
          rw [hnG_app]
          rfl
        rw [h1, dblG_small l15]
        split
        · have e2 : 2 * vlG a = vlG a <<< 1 := by rw [Nat.shiftLeft_eq]; omega
          apply Nat.eq_of_testBit_eq
          intro i
          rw [Nat.testBit_xor]
          cases i with
          | zero => simp [Nat.testBit_zero]
          | succ i =>
            rw [Nat.testBit_succ, Nat.testBit_succ, Nat.testBit_succ, show 2 * vlG a / 2 = vlG a by omega, show (2 * vlG a + 1) / 2 = vlG a by omega, show 1 / 2 = 0 from rfl, Nat.zero_testBit, Bool.xor_false]
        · rw [Nat.xor_zero]
          rfl
      obtain ⟨a, c, rfl, ha⟩ := snoc l hl
      have lt := (ih a ha (by omega)).1
      refine ⟨?_, fun m hbl hbm hm e => ?_⟩
      · rw [val a c ha, Nat.pow_succ]
        split <;> omega
      · obtain ⟨b, d, rfl, hb⟩ := snoc m hm
        rw [val a c ha, val b d hb] at e
        have bc := hbl c (by simp)
        have bd := hbm d (by simp)
        have e1 : vlG a = vlG b := by
          revert e
          split <;> split <;> omega
        have e2 : c = d := by
          rw [e1] at e
          revert e
          rcases bc with rfl | rfl <;> rcases bd with rfl | rfl <;> simp
        rw [(ih a ha (by omega)).2 b (fun x hx => hbl x (by simp [hx])) (fun x hx => hbm x (by simp [hx])) hb e1, e2]
  intro l hl
  exact base l.length l rfl hl
--END
section
variable {X : Cx}
theorem vals_range {acc : List Value} {n : Nat} (h1 : acc.length = n) (h2 : ∀ (j : Nat) v, acc[j]? = some v → ∃ t, v = .int (0 + (j : Int) * 1) t) : Vals ((List.range n).map fun (k : Nat) => V.int (k : Int)) acc := by
  induction n generalizing acc with
  | zero =>
    have : acc = [] := List.length_eq_zero_iff.mp h1
    subst this
    exact .nil
  | succ n ih =>
    obtain ⟨b, y, rfl⟩ : ∃ b y, acc = b ++ [y] := by
      have h0 : acc ≠ [] := fun e => by rw [e] at h1; cases h1
      exact ⟨acc.dropLast, acc.getLast h0, (List.dropLast_concat_getLast h0).symm⟩
    have hl : b.length = n := by
      rw [List.length_append] at h1
      have h1 : b.length + 1 = n + 1 := h1
      omega
    obtain ⟨t, ht⟩ := h2 n y (by rw [List.getElem?_append_right (by omega), hl, Nat.sub_self]; rfl)
    rw [List.range_succ, List.map_append]
    refine Vals.append (ih hl fun j v hj => h2 j v ?_) (.cons ⟨t, ?_⟩ .nil)
    · rw [List.getElem?_append_left (List.getElem?_eq_some_iff.mp hj).1]
      exact hj
    · rw [ht, Int.zero_add, Int.mul_one]
theorem small_range {n : Nat} (h : n ≤ 100000) : Builtin.Range.small 0 (n : Int) 1 = true := small_one (by decide) (by decide) (by omega) (by omega)
theorem call_list_rng (hc : X.calm = true) : CallR X (.type "list") (fun xs H Q => ∃ (p : Addr) (n : Nat) (m : Int), xs = [.ref p] ∧ H p = some (.rng 0 m) ∧ m = n ∧ n ≤ 100000 ∧ ∀ l, H l = none → Q (.ref l) (upd H l (.lst ((List.range n).map fun (k : Nat) => V.int (k : Int))))) := by
  intro pins s σ H xs us Q I r h
  obtain ⟨p, n, _, rfl, hp, rfl, hn, q⟩ := h
  obtain ⟨u, rfl, rx⟩ := vals1 r
  cases rx
  obtain ⟨t1, t2, t3, ho⟩ := I.hok p _ hp
  refine PySem.call_list_range (n := n) (I.ok.hd hc) ho (small_range hn) ?_ (by omega) fun h' tk acc' c' hk hS' hacc => ?_
  · rw [rangeSize_one]
    split <;> omega
  · have r' : Vals ((List.range n).map fun (k : Nat) => V.int (k : Int)) acc'.toList := vals_range (by simpa using hacc.1) fun j v hj => hacc.2 j v (by simpa using hj)
    exact ⟨.ref s.heap.objs.size, _, I.laid (t' := tk) hk (Nat.le_refl _) (show ObjOk X.prog X.w _ h' _ (.lst _) from ⟨by rw [List.length_map, List.length_range]; exact sz hn, acc'.toList, c', r', by simpa using hS'⟩), rfl, q _ (I.hok.fresh (Nat.le_refl _))⟩
end
end Fp

set_option Elab.async false
set_option linter.all false
set_option maxRecDepth 100000
set_option maxHeartbeats 4000000
set_option pp.maxSteps 3000
namespace K28
open PySem PySem.Spec PyProof.Rows L2 Fp
def topS (i : Nat) : Stmt := PySem.Challenge.pw_farpage_k28_whole_changes_told.main.body.getD i (.Pass ⟨0, 0, 0, 0⟩)
abbrev s_turned : Stmt := topS 1
abbrev N_turned : List Str := ["bit"]
abbrev P_turned : List Str := ["bit"]
theorem sc_turned : FnScope N_turned P_turned (defScope s_turned) := ⟨rfl, rfl, rfl, by decide +kernel, rfl, by decide +kernel, by decide +kernel⟩
abbrev s_rest_of : Stmt := topS 5
abbrev N_rest_of : List Str := ["bits", "left", "place", "turn"]
abbrev P_rest_of : List Str := ["bits"]
theorem sc_rest_of : FnScope N_rest_of P_rest_of (defScope s_rest_of) := ⟨rfl, rfl, rfl, by decide +kernel, rfl, by decide +kernel, by decide +kernel⟩
abbrev s_sealed : Stmt := topS 6
abbrev N_sealed : List Str := ["bits"]
abbrev P_sealed : List Str := ["bits"]
theorem sc_sealed : FnScope N_sealed P_sealed (defScope s_sealed) := ⟨rfl, rfl, rfl, by decide +kernel, rfl, by decide +kernel, by decide +kernel⟩
abbrev s_is_sealed : Stmt := topS 7
abbrev N_is_sealed : List Str := ["bits"]
abbrev P_is_sealed : List Str := ["bits"]
theorem sc_is_sealed : FnScope N_is_sealed P_is_sealed (defScope s_is_sealed) := ⟨rfl, rfl, rfl, by decide +kernel, rfl, by decide +kernel, by decide +kernel⟩
abbrev s_bag : Stmt := topS 9
abbrev N_bag : List Str := ["_law_script", "_law_at", "_law_cell", "_law_prime"]
abbrev P_bag : List Str := ["_law_script", "_law_at"]
theorem sc_bag : FnScope N_bag P_bag (defScope s_bag) := ⟨rfl, rfl, rfl, by decide +kernel, rfl, by decide +kernel, by decide +kernel⟩
abbrev s_take : Stmt := topS 10
abbrev N_take : List Str := ["_law_bag_here", "_law_many", "_law_digit"]
abbrev P_take : List Str := ["_law_bag_here", "_law_many"]
theorem sc_take : FnScope N_take P_take (defScope s_take) := ⟨rfl, rfl, rfl, by decide +kernel, rfl, by decide +kernel, by decide +kernel⟩
abbrev s_written : Stmt := topS 11
abbrev N_written : List Str := ["_law_number", "_law_many", "_law_place"]
abbrev P_written : List Str := ["_law_number", "_law_many"]
theorem sc_written : FnScope N_written P_written (defScope s_written) := ⟨rfl, rfl, rfl, by decide +kernel, rfl, by decide +kernel, by decide +kernel⟩
abbrev s_any_bits : Stmt := topS 12
abbrev N_any_bits : List Str := ["_law_bag_here", "_law_many", "_law_way", "_law_found", "_law_k", "_law_at"]
abbrev P_any_bits : List Str := ["_law_bag_here", "_law_many"]
theorem sc_any_bits : FnScope N_any_bits P_any_bits (defScope s_any_bits) := ⟨rfl, rfl, rfl, by decide +kernel, rfl, by decide +kernel, by decide +kernel⟩
abbrev s_places : Stmt := topS 13
abbrev N_places : List Str := ["_law_bag_here", "_law_many", "_law_size", "_law_left", "_law_found", "_law_k"]
abbrev P_places : List Str := ["_law_bag_here", "_law_many", "_law_size"]
theorem sc_places : FnScope N_places P_places (defScope s_places) := ⟨rfl, rfl, rfl, by decide +kernel, rfl, by decide +kernel, by decide +kernel⟩
abbrev s_lturned : Stmt := topS 14
abbrev N_lturned : List Str := ["_law_bits", "_law_places_here", "_law_found", "_law_at", "_law_bit"]
abbrev P_lturned : List Str := ["_law_bits", "_law_places_here"]
theorem sc_lturned : FnScope N_lturned P_lturned (defScope s_lturned) := ⟨rfl, rfl, rfl, by decide +kernel, rfl, by decide +kernel, by decide +kernel⟩
abbrev s_changes : Stmt := topS 15
abbrev N_changes : List Str := ["_law_bag_here", "_law_size", "_law_found", "_law_turn", "_law_begin", "_law_some", "_law_i", "_law_j"]
abbrev P_changes : List Str := ["_law_bag_here", "_law_size"]
theorem sc_changes : FnScope N_changes P_changes (defScope s_changes) := ⟨rfl, rfl, rfl, by decide +kernel, rfl, by decide +kernel, by decide +kernel⟩
abbrev s_law : Stmt := topS 16
abbrev N_law : List Str := ["_law_script", "_law_k", "_law_bag_here", "_law_whole", "_law_size", "_law_places_here", "_law_turn", "_law_begin"]
abbrev P_law : List Str := ["_law_script"]
theorem sc_law : FnScope N_law P_law (defScope s_law) := ⟨rfl, rfl, rfl, by decide +kernel, rfl, by decide +kernel, by decide +kernel⟩
structure Ad where
  a_turned : Addr
  d_turned : FuncData
  a_rest_of : Addr
  d_rest_of : FuncData
  a_sealed : Addr
  d_sealed : FuncData
  a_is_sealed : Addr
  d_is_sealed : FuncData
  a_bag : Addr
  d_bag : FuncData
  a_take : Addr
  d_take : FuncData
  a_written : Addr
  d_written : FuncData
  a_any_bits : Addr
  d_any_bits : FuncData
  a_places : Addr
  d_places : FuncData
  a_lturned : Addr
  d_lturned : FuncData
  a_changes : Addr
  d_changes : FuncData
  a_law : Addr
  d_law : FuncData
  t_REST : Tok
  t_TURNS : Addr
structure Txt (w : World) (K : PySem.W.Frag) (mg : Str → Option Value) (base : Heap) (A : Ad) : Prop where
  F_turned : Fun K "turned" "turned" s_turned A.a_turned A.d_turned
  b_turned : Binds K A.d_turned P_turned []
  g_turned : mg "turned" = some (.ref A.a_turned)
  F_rest_of : Fun K "rest_of" "rest_of" s_rest_of A.a_rest_of A.d_rest_of
  b_rest_of : Binds K A.d_rest_of P_rest_of []
  g_rest_of : mg "rest_of" = some (.ref A.a_rest_of)
  F_sealed : Fun K "sealed" "sealed" s_sealed A.a_sealed A.d_sealed
  b_sealed : Binds K A.d_sealed P_sealed []
  g_sealed : mg "sealed" = some (.ref A.a_sealed)
  F_is_sealed : Fun K "is_sealed" "is_sealed" s_is_sealed A.a_is_sealed A.d_is_sealed
  b_is_sealed : Binds K A.d_is_sealed P_is_sealed []
  g_is_sealed : mg "is_sealed" = some (.ref A.a_is_sealed)
  F_bag : Fun K "_law_bag" "_law_bag" s_bag A.a_bag A.d_bag
  b_bag : Binds K A.d_bag P_bag []
  g_bag : mg "_law_bag" = some (.ref A.a_bag)
  F_take : Fun K "_law_take" "_law_take" s_take A.a_take A.d_take
  b_take : Binds K A.d_take P_take []
  g_take : mg "_law_take" = some (.ref A.a_take)
  F_written : Fun K "_law_written" "_law_written" s_written A.a_written A.d_written
  b_written : Binds K A.d_written P_written []
  g_written : mg "_law_written" = some (.ref A.a_written)
  F_any_bits : Fun K "_law_any_bits" "_law_any_bits" s_any_bits A.a_any_bits A.d_any_bits
  b_any_bits : Binds K A.d_any_bits P_any_bits []
  g_any_bits : mg "_law_any_bits" = some (.ref A.a_any_bits)
  F_places : Fun K "_law_places" "_law_places" s_places A.a_places A.d_places
  b_places : Binds K A.d_places P_places []
  g_places : mg "_law_places" = some (.ref A.a_places)
  F_lturned : Fun K "_law_turned" "_law_turned" s_lturned A.a_lturned A.d_lturned
  b_lturned : Binds K A.d_lturned P_lturned []
  g_lturned : mg "_law_turned" = some (.ref A.a_lturned)
  F_changes : Fun K "_law_changes" "_law_changes" s_changes A.a_changes A.d_changes
  b_changes : Binds K A.d_changes P_changes []
  g_changes : mg "_law_changes" = some (.ref A.a_changes)
  F_law : Fun K "law" "law" s_law A.a_law A.d_law
  g_law : mg "law" = some (.ref A.a_law)
  S_TURNS : ∀ H : Hp, SqT K H A.t_TURNS [.int 0, .int 1, .int 14, .int 16]
  Y_TURNS : ∃ o, K.lookup A.t_TURNS = some o ∧ o.cls = .type "tuple" ∧ o.dict = none
  z_abs : mg "abs" = none
  z_int : mg "int" = none
  z_len : mg "len" = none
  z_list : mg "list" = none
  z_max : mg "max" = none
  z_min : mg "min" = none
  z_range : mg "range" = none
  z_str : mg "str" = none
  c_REST : mg "REST" = some (.int (16) A.t_REST)
  c_TURNS : mg "TURNS" = some (.ref A.t_TURNS)
section
variable {P : Program} {w : World} {K : PySem.W.Frag} {mg : Str → Option Value} {base : Heap}
def spBag (K : PySem.W.Frag) : Sp := fun vs H Q _ => ∃ (a : Addr) (ns : List Int) (k : Int), vs = [.ref a, .int k] ∧ SqL K H a (ns.map V.int) ∧ 0 ≤ k ∧ k ≤ 1000 ∧
  ∀ p H', H p = none → Same H H' → Bag4 H' p → Q (.ref p) H'
def primes : List V := [.int 2147483629, .int 2147483587, .int 2147483579, .int 2147483563, .int 2147483549, .int 2147483543, .int 2147483497, .int 2147483489]
theorem prime_at {j : Int} (h0 : 0 ≤ j) (h1 : j < 8) : ∃ p : Int, atI primes j = some (.int p) ∧ 0 < p ∧ p < 2147483648 := by
  obtain ⟨k, rfl⟩ := Int.eq_ofNat_of_zero_le h0
  have hk : k < 8 := by omega
  have main : ∀ k : Nat, k < 8 → ∃ p : Int, primes[k]? = some (.int p) ∧ 0 < p ∧ p < 2147483648 := by
    intro k hk
    rcases k with _ | _ | _ | _ | _ | _ | _ | _ | k
    · exact ⟨_, rfl, by decide, by decide⟩
    · exact ⟨_, rfl, by decide, by decide⟩
    · exact ⟨_, rfl, by decide, by decide⟩
    · exact ⟨_, rfl, by decide, by decide⟩
    · exact ⟨_, rfl, by decide, by decide⟩
    · exact ⟨_, rfl, by decide, by decide⟩
    · exact ⟨_, rfl, by decide, by decide⟩
    · exact ⟨_, rfl, by decide, by decide⟩
    · omega
  obtain ⟨p, e, h2⟩ := main k hk
  exact ⟨p, atI_nat e, h2⟩
theorem ok_bag {A : Ad} (T : Txt w K mg base A) : FnOk P w K mg base CX0 1 A.a_bag A.d_bag P_bag (spBag K) := by
  refine T.F_bag.ok sc_bag (fun vs H Q E h => ?_) (fun cdv Ar outer s H vs Q E hr h => ?_)
  · obtain ⟨a, ns, k, rfl, _⟩ := h
    rfl
  · obtain ⟨a, ns, k, rfl, hS, k0, k1, q⟩ := h
    refine ⟨_, (pss_cons (ps_set (i := 2) sc_bag.nd rfl (Or.inl rfl) pe_int)
      (Evl.pss_cut (ps_if (pt_cmpR op_lt (pv 1) (pe_callB (r := fun xs H Q => ∃ p ys, xs = [.ref p] ∧ (SqL K H p ys ∨ SqT K H p ys) ∧ Q (.int ys.length) H) call_len_seq (by rfl) T.z_len PySem.boot_len (pa_cons (pv 0) pa_nil)) (nomark _))
      (pss_one (ps_set (i := 2) sc_bag.nd rfl (Or.inl rfl) (pe_callB call_abs (by rfl) T.z_abs (by decide +kernel) (pa_cons (pe_ix (r := rIxL K) ix_list (pv 0) (pv 1) (fun _ _ => rfl)) pa_nil)))) pss_nil)
      (pss_cons (ps_set (i := 3) sc_bag.nd rfl (Or.inl rfl) (pe_ix (r := rIxL K) ix_list (pe_lst (pa_cons pe_int (pa_cons pe_int (pa_cons pe_int (pa_cons pe_int (pa_cons pe_int (pa_cons pe_int (pa_cons pe_int (pa_cons pe_int pa_nil))))))))) (pe_op op_mod (pv 1) pe_int) (fun _ _ => rfl)))
      (pss_one (ps_ret (pe_lst (pa_cons (pe_op op_mul (pv 2) (pe_callTy call_int1 (by rfl) T.z_int (by decide +kernel) (pa_cons (pe_cmpR op_ge (pv 2) (pe_op op_pow pe_int pe_int) (nomark _)) pa_nil))) (pa_cons (pe_op op_mod (pe_op op_pow (pe_op op_add (pe_op op_add (pe_op op_mod (pv 2) pe_int) (pe_op op_mul pe_int (pv 1))) pe_int) pe_int) (pv 3)) (pa_cons (pv 3) (pa_cons pe_int pa_nil)))))))))), ?_⟩
    refine ⟨fun σ H' => ∃ c : Int, σ = [some (.ref a), some (.int k), some (.int c), none] ∧ 0 ≤ c ∧ H' = H, ?_, ?_⟩
    · refine ⟨_, rfl, _, rfl, _, _, rfl, .inl hS, _, _, rfl, rfl, _, rfl, ite2 (fun e => ?_) (fun e => ?_)⟩
      · have lt : k < ((ns.map V.int).length : Int) := of_decide_eq_true e
        obtain ⟨j, rfl⟩ := Int.eq_ofNat_of_zero_le k0
        have hj : j < ns.length := by
          rw [List.length_map] at lt
          omega
        have g : (ns.map V.int)[j]? = some (.int ns[j]) := by
          rw [List.getElem?_map, List.getElem?_eq_getElem hj]
          rfl
        refine ⟨_, rfl, _, rfl, _, _, _, _, rfl, rfl, hS, atI_nat g, _, rfl, ?_⟩
        exact ⟨_, rfl, by split <;> omega, rfl⟩
      · exact ⟨0, rfl, Int.le_refl _, rfl⟩
    · rintro σ H1 ⟨c, rfl, c0, rfl⟩
      refine ⟨(by show 8 ≤ sizeLine; decide), fun p hp => ⟨_, rfl, _, _, rfl, rfl, (by show (0 : Int) < 8; decide), ?_⟩⟩
      have m0 := Int.emod_nonneg k (show (8 : Int) ≠ 0 by decide)
      have m1 := Int.emod_lt_of_pos k (show (0 : Int) < 8 by decide)
      obtain ⟨pr, hpr, p0, p1⟩ := prime_at m0 m1
      refine ⟨_, _, _, _, rfl, rfl, SqL.of (upd_same (o := .lst primes)), hpr, ?_⟩
      have n0 := Int.emod_nonneg c (show (2147483647 : Int) ≠ 0 by decide)
      have n1 := Int.emod_lt_of_pos c (show (0 : Int) < 2147483647 by decide)
      refine ⟨_, rfl, _, rfl, _, _, rfl, rfl, ⟨by decide, by decide, by decide⟩, _, _, rfl, rfl, .inr ⟨_, rfl, _, _, rfl, rfl, .inr ?_, _, rfl, _, _, rfl, rfl, (by show (0 : Int) < 2147483647; decide), _, rfl, _, _, rfl, rfl, .inl ⟨by decide, by decide⟩, _, _, rfl, rfl, _, _, rfl, rfl, _, _, rfl, rfl, ⟨by decide, by decide, ?_⟩, _, rfl, _, _, rfl, rfl, p0, _, rfl, (by show 4 ≤ sizeLine; decide), fun z hz => ?_⟩⟩
      · split <;> constructor <;> decide
      · omega
      · refine q z _ (by
          cases e : H1 z with
          | none => rfl
          | some o =>
            rw [same_new hp _ _ e] at hz
            cases hz) ((same_new hp).trans (same_new hz)) ⟨_, _, pr, 0, upd_same, ?_, Int.emod_nonneg _ (by omega), ?_, p0, p1⟩
        · split <;> omega
        · have := Int.emod_lt_of_pos ((c % 2147483647 + 104729 * k + 7) ^ (5 : Int).toNat) p0
          exact Int.lt_trans this p1
def spTake : Sp := fun vs H Q _ => ∃ (b : Addr) (m : Int), vs = [.ref b, .int m] ∧ Bag4 H b ∧ 0 < m ∧ m < 1000000 ∧
  ∀ (d : Int) (H' : Hp), 0 ≤ d → d < m → Bx4 b H H' → Q (.int d) H'
theorem ok_take {A : Ad} (T : Txt w K mg base A) : FnOk P w K mg base CX0 1 A.a_take A.d_take P_take spTake := by
  refine T.F_take.ok sc_take (fun vs H Q E h => ?_) (fun cdv Ar outer s H vs Q E hr h => ?_)
  · obtain ⟨b, m, rfl, _⟩ := h
    rfl
  · obtain ⟨b, m, rfl, ⟨g, s, pr, kk, hb, g0, s0, s1, p0, p1⟩, m0, m1, q⟩ := h
    refine ⟨_, (pss_cons (ps_if (pt_cmpR op_gt (pe_ix (r := rIxL K) ix_list (pv 0) pe_int (fun _ _ => rfl)) pe_int (nomark _))
      (pss_cons (ps_set (i := 2) sc_take.nd rfl (Or.inl rfl) (pe_op op_mod (pe_ix (r := rIxL K) ix_list (pv 0) pe_int (fun _ _ => rfl)) (pv 1)))
      (pss_cons (ps_asg (pe_op op_fdiv (pe_ix (r := rIxL K) ix_list (pv 0) pe_int (fun _ _ => rfl)) (pv 1)) (pg_sub (pv 0) pe_int set_list))
      (pss_one (ps_ret (pv 2))))) pss_nil)
      (pss_cons (ps_asg (pe_op op_add (pe_ix (r := rIxL K) ix_list (pv 0) pe_int (fun _ _ => rfl)) pe_int) (pg_sub (pv 0) pe_int set_list))
      (pss_cons (ps_asg (pe_op op_mod (pe_op op_add (pe_op op_add (pe_op op_mul (pe_ix (r := rIxL K) ix_list (pv 0) pe_int (fun _ _ => rfl)) pe_int) (pe_op op_mul pe_int (pe_ix (r := rIxL K) ix_list (pv 0) pe_int (fun _ _ => rfl)))) pe_int) (pe_ix (r := rIxL K) ix_list (pv 0) pe_int (fun _ _ => rfl))) (pg_sub (pv 0) pe_int set_list))
      (pss_one (ps_ret (pe_op op_mod (pe_op op_mod (pe_op op_pow (pe_op op_fdiv (pe_ix (r := rIxL K) ix_list (pv 0) pe_int (fun _ _ => rfl)) pe_int) pe_int) pe_int) (pv 1))))))), ?_⟩
    refine ⟨_, rfl, _, _, _, _, rfl, rfl, SqL.of hb, atI_nat (j := 0) rfl, _, _, rfl, rfl, _, rfl, ite2 (fun e => ?_) (fun e => ?_)⟩
    · refine ⟨_, rfl, _, _, _, _, rfl, rfl, SqL.of hb, atI_nat (j := 0) rfl, _, rfl, _, _, rfl, rfl, m0, ?_⟩
      refine ⟨_, rfl, _, _, _, _, rfl, rfl, SqL.of hb, atI_nat (j := 0) rfl, _, rfl, _, _, rfl, rfl, ⟨m0, by omega⟩, _, rfl, _, _, _, _, rfl, rfl, hb, Evl.ixN_nat (j := 0) (by show 0 < 4; decide), ?_⟩
      refine ⟨_, rfl, ?_⟩
      exact q _ _ (Int.emod_nonneg _ (by omega)) (Int.emod_lt_of_pos _ m0) (Bx4.drawn (Int.ediv_nonneg g0 (by omega)) s0 s1 p0 p1)
    · have t0 := Int.emod_nonneg (s * 48271 + 7919 * (kk + 1) + 11) (show pr ≠ 0 by omega)
      have t1 := Int.emod_lt_of_pos (s * 48271 + 7919 * (kk + 1) + 11) p0
      refine ⟨_, rfl, _, _, _, _, rfl, rfl, SqL.of hb, atI_nat (j := 3) rfl, _, _, rfl, rfl, _, rfl, _, _, _, _, rfl, rfl, hb, Evl.ixN_nat (j := 3) (by show 3 < 4; decide), ?_⟩
      refine ⟨_, rfl, _, _, _, _, rfl, rfl, SqL.of upd_same, atI_nat (j := 1) rfl, _, _, rfl, rfl, .inr ⟨by decide, by decide⟩, _, rfl, _, _, _, _, rfl, rfl, SqL.of upd_same, atI_nat (j := 3) rfl, _, _, rfl, rfl, .inl ⟨by decide, by decide⟩, _, _, rfl, rfl, _, _, rfl, rfl, _, rfl, _, _, _, _, rfl, rfl, SqL.of upd_same, atI_nat (j := 2) rfl, _, _, rfl, rfl, p0, _, rfl, _, _, _, _, rfl, rfl, upd_same, Evl.ixN_nat (j := 1) (by show 1 < 4; decide), ?_⟩
      refine ⟨_, rfl, _, _, _, _, rfl, rfl, SqL.of upd_same, atI_nat (j := 1) rfl, _, _, rfl, rfl, ⟨by decide, by decide⟩, _, _, rfl, rfl, ⟨by decide, by decide, ?_⟩, _, _, rfl, rfl, (by show (0 : Int) < 2147483629; decide), _, rfl, _, _, rfl, rfl, m0, ?_⟩
      · omega
      · refine q _ _ (Int.emod_nonneg _ (by omega)) (Int.emod_lt_of_pos _ m0) ?_
        have b1 : Bx4 b H (upd H b (.lst [.int g, .int s, .int pr, .int (kk + 1)])) := Bx4.drawn g0 s0 s1 p0 p1
        exact b1.trans (Bx4.drawn (k := kk + 1) g0 t0 (by omega) p0 p1)
def spWritten : Sp := fun vs H Q _ => ∃ (n m : Nat) (x y : Int), vs = [.int x, .int y] ∧ x = n ∧ y = m ∧ m ≤ 1000 ∧ ∀ H', Same H H' → Q (.str (sOf (wrB n m))) H'
theorem log2_bit (k : Nat) (h : k < 2) : ((k : Nat) : Int).natAbs.log2 < 1920 := by
  have : k = 0 ∨ k = 1 := by omega
  rcases this with rfl | rfl <;> decide
theorem ok_written {A : Ad} (T : Txt w K mg base A) : FnOk P w K mg base CX0 1 A.a_written A.d_written P_written spWritten := by
  refine T.F_written.ok sc_written (fun vs H Q E h => ?_) (fun cdv Ar outer s H vs Q E hr h => ?_)
  · obtain ⟨n, m, x, y, rfl, _⟩ := h
    rfl
  · obtain ⟨n, m, _, _, rfl, rfl, rfl, m1, q⟩ := h
    refine ⟨_, (pss_one (ps_ret (pe_join pe_str (pe_lc (own := [("_law_place", 2)]) (g := gName 2) (tt := tYes) (by rfl) sc_written.nd (pi_range3 (by rfl) T.z_range (pa_cons (pe_op op_sub (pv 1) pe_int) (pa_cons (pe_un un_neg pe_int) (pa_cons (pe_un un_neg pe_int) pa_nil)))) (blkOk_by (own := [("_law_place", 2)]) (N := N_written) (sc := defScope s_written) (by decide +kernel)) (fun _ _ _ _ _ => pg_name (i := 2) sc_written.nd rfl (Or.inl rfl)) (fun _ _ _ _ _ => pts_nil) (fun s5 H5 C5 cl5 fp5 => (pe_callTy call_str_int (by rfl) T.z_str (by decide +kernel) (pa_cons (pe_op op_odd (pe_op op_shr (pv 0) (pv 2)) pe_int) pa_nil))))))), ?_⟩
    refine ⟨⟨_, rfl⟩, _, rfl, _, _, rfl, rfl, _, rfl, _, rfl, _, _, _, _, rfl, RgC.neg (by omega) (by omega) (by decide) (by decide), fun D hD => ?_⟩
    rw [show ((m : Int) - 1 - (-1)).toNat = m by omega]
    refine lc_it walk_rangeC (fun i H' => Same H H' ∧ H' D = some (.lst (cells ((List.range i).map fun j => 48 + n / 2 ^ (m - 1 - j) % 2)))) ⟨same_new hD, upd_same⟩ (fun _ _ _ _ => trivial) ?_ ?_
    · rintro i x H1 H2 hi ⟨sm, hD1⟩ ⟨rfl, rfl⟩
      have ep : ((m : Int) - 1 + (i : Int) * (-1)) = ((m - 1 - i : Nat) : Int) := by omega
      have e2 : (n : Int) / 2 ^ ((m : Int) - 1 + (i : Int) * (-1)).toNat = ((n / 2 ^ (m - 1 - i) : Nat) : Int) := by
        rw [ep, Int.toNat_natCast]
        push_cast
        rfl
      refine ⟨rfl, _, rfl, _, rfl, _, _, rfl, rfl, by omega, n / 2 ^ (m - 1 - i), congrArg V.int e2, rfl, _, rfl, log2_bit _ (by omega), _, hD1, ?_, Same.mut sm hD, ?_⟩
      · rw [cells_len, List.length_map, List.length_range]
        exact szl (by omega)
      · rw [upd_same, range_more, ← cells_app, str_bit _ (by omega)]
    · rintro H1 ⟨sm, hD1⟩
      refine ⟨_, _, (wrB n m).map fun c => sOf [c], rfl, rfl, .inl (SqL.of (by rw [← cells_strs]; exact hD1)), join_size (by rw [wrB_len]; omega), ?_⟩
      rw [join_cells]
      exact q H1 sm
def spAny : Sp := fun vs H Q _ => ∃ (b : Addr) (m : Nat) (x : Int), vs = [.ref b, .int x] ∧ x = m ∧ Bag4 H b ∧ m ≤ 50000 ∧ ∀ l H', l.length = m → Bts l → Bx4 b H H' → Q (.str (sOf l)) H'
theorem put_at {l : List Nat} {j c : Nat} (hj : j < l.length) : l.take j ++ [c] ++ l.drop (j + 1) = l.set j c := by
  rw [List.set_eq_take_append_cons_drop, if_pos hj, List.append_assoc]
  rfl
theorem ok_any_bits {A : Ad} (T : Txt w K mg base A) : FnOk P w K mg base CX0 2 A.a_any_bits A.d_any_bits P_any_bits spAny := by
  have G_take := ok_take (P := P) (w := w) (base := base) T
  have G_written := ok_written (P := P) (w := w) (base := base) T
  refine T.F_any_bits.ok sc_any_bits (fun vs H Q E h => ?_) (fun cdv Ar outer s H vs Q E hr h => ?_)
  · obtain ⟨b, m, x, rfl, _⟩ := h
    rfl
  · obtain ⟨b, m, _, rfl, rfl, hb, m1, q⟩ := h
    refine ⟨_, (pss_cons (ps_set (i := 2) sc_any_bits.nd rfl (Or.inl rfl) (pe_call G_take (hr.mono (by decide)) (by rfl) T.g_take T.F_take.kp T.b_take .nil pass0 (pa_cons (pv 0) (pa_cons pe_int pa_nil))))
      (pss_cons (ps_if (pt_cmpR op_lt (pv 2) pe_int (nomark _))
      (pss_one (ps_ret (pe_slice sl_str (pe_join pe_str (pe_lc (own := [("_law_k", 4)]) (g := gName 4) (tt := tYes) (by rfl) sc_any_bits.nd (pi_range1 (by rfl) T.z_range (pa_cons (pe_op op_add (pe_op op_fdiv (pv 1) pe_int) pe_int) pa_nil)) (blkOk_by (own := [("_law_k", 4)]) (N := N_any_bits) (sc := defScope s_any_bits) (by decide +kernel)) (fun _ _ _ _ _ => pg_name (i := 4) sc_any_bits.nd rfl (Or.inl rfl)) (fun _ _ _ _ _ => pts_nil) (fun s5 H5 C5 cl5 fp5 => (pe_call G_written (hr.mono (by decide)) (by rfl) T.g_written T.F_written.kp T.b_written .nil pass0 (pa_cons (pe_call G_take (hr.mono (by decide)) (by rfl) T.g_take T.F_take.kp T.b_take .nil pass0 (pa_cons (pv 0) (pa_cons pe_int pa_nil))) (pa_cons pe_int pa_nil)))))) po_none (po_some (pv 1))))) pss_nil)
      (pss_cons (ps_if (pt_cmpR op_eq (pv 2) pe_int (nomark _))
      (pss_one (ps_ret (pe_slice sl_str (pe_op op_mulT (pe_call G_written (hr.mono (by decide)) (by rfl) T.g_written T.F_written.kp T.b_written .nil pass0 (pa_cons (pe_call G_take (hr.mono (by decide)) (by rfl) T.g_take T.F_take.kp T.b_take .nil pass0 (pa_cons (pv 0) (pa_cons pe_int pa_nil))) (pa_cons pe_int pa_nil))) (pe_op op_add (pe_op op_fdiv (pv 1) pe_int) pe_int)) po_none (po_some (pv 1))))) pss_nil)
      (pss_cons (ps_set (i := 3) sc_any_bits.nd rfl (Or.inl rfl) (pe_op op_mul_str (pe_ix ix_str pe_str (pe_op op_sub (pv 2) pe_int) (fun _ _ => rfl)) (pv 1)))
      (pss_cons (ps_for PassesOwn.never rfl (pi_range1 (by rfl) T.z_range (pa_cons (pe_op op_mul (pe_call G_take (hr.mono (by decide)) (by rfl) T.g_take T.F_take.kp T.b_take .nil pass0 (pa_cons (pv 0) (pa_cons pe_int pa_nil))) (pe_callTy call_int1 (by rfl) T.z_int (by decide +kernel) (pa_cons (pe_cmpR op_gt (pv 1) pe_int (nomark _)) pa_nil))) pa_nil)) (pg_name (i := 4) sc_any_bits.nd rfl (Or.inl rfl))
      (pss_cons (ps_set (i := 5) sc_any_bits.nd rfl (Or.inl rfl) (pe_call G_take (hr.mono (by decide)) (by rfl) T.g_take T.F_take.kp T.b_take .nil pass0 (pa_cons (pv 0) (pa_cons (pv 1) pa_nil))))
      (pss_one (ps_set (i := 3) sc_any_bits.nd rfl (Or.inl rfl) (pe_op op_add_str (pe_op op_add_str (pe_slice sl_str (pv 3) po_none (po_some (pv 5))) (pe_ix ix_str pe_str (pe_op op_sub (pv 2) pe_int) (fun _ _ => rfl))) (pe_slice sl_str (pv 3) (po_some (pe_op op_add (pv 5) pe_int)) po_none))))))
      (pss_one (ps_ret (pv 3)))))))), ?_⟩
    refine ⟨_, rfl, b, 6, rfl, hb, by decide, by decide, fun way H1 w0 w1 bx1 => ?_⟩
    refine ⟨_, rfl, _, _, rfl, rfl, _, rfl, ite2 (fun e => ?_) (fun e => ?_)⟩
    · refine ⟨⟨_, rfl⟩, _, rfl, _, _, rfl, rfl, ⟨by decide, by decide⟩, _, _, rfl, rfl, _, rfl, by omega, by omega, fun D hD => ?_⟩
      rw [show ((m : Int) / 16 + 1).toNat = m / 16 + 1 by omega]
      have nD : D ≠ b := bx1.1.ne hD
      have fD : H D = none := bx1.free hD
      refine lc_range (lo := 0) (n := m / 16 + 1) (fun i H' => ∃ ls : List (List Nat), H' D = some (.lst (ls.map sV)) ∧ ls.length = i ∧ ls.flatten.length = 16 * i ∧ Bts ls.flatten ∧ Bx4 b H H') ⟨[], upd_same, rfl, rfl, Bts.nil, bx1.same (same_new hD)⟩ ?_ ?_
      · rintro i H2 hi ⟨ls, hD2, l1, l2, bl, bx2⟩
        refine ⟨rfl, _, rfl, b, 65536, rfl, bx2.1, by decide, by decide, fun d H3 d0 d1 bx3 => ?_⟩
        obtain ⟨d, rfl⟩ := Int.eq_ofNat_of_zero_le d0
        refine ⟨d, 16, _, _, rfl, rfl, rfl, by decide, fun H4 s4 => ?_⟩
        refine ⟨_, s4 _ _ (bx3.2 _ _ nD hD2), ?_, ls ++ [wrB d 16], ?_, ?_, ?_, ?_, ((bx2.trans bx3).same s4).mut fD nD⟩
        · rw [List.length_map]
          exact szl (by omega)
        · rw [upd_same, List.map_append]
          rfl
        · rw [List.length_append, l1]
          rfl
        · rw [flatten_snoc, List.length_append, l2, wrB_len]
          omega
        · rw [flatten_snoc]
          exact bl.app (wrB_bts d 16)
      · rintro H2 ⟨ls, hD2, l1, l2, bl, bx2⟩
        have lz : ls.flatten.length ≤ 100000 := by omega
        refine ⟨_, _, ls.map sOf, rfl, rfl, .inl (SqL.of (by rw [← sV_strs]; exact hD2)), join_flat_size lz, ?_⟩
        rw [join_flat]
        refine ⟨_, rfl, _, rfl, _, rfl, (by rw [sOf_len]; exact sz lz), ?_⟩
        rw [cutS_upto]
        exact q _ H2 (by rw [List.length_take]; omega) (bl.take m) bx2
    · refine ⟨_, rfl, rfl, _, rfl, ite2 (fun e3 => ?_) (fun e3 => ?_)⟩
      · refine ⟨_, rfl, b, 256, rfl, bx1.1, by decide, by decide, fun d H3 d0 d1 bx3 => ?_⟩
        obtain ⟨d, rfl⟩ := Int.eq_ofNat_of_zero_le d0
        refine ⟨d, 8, _, _, rfl, rfl, rfl, by decide, fun H4 s4 => ?_⟩
        refine ⟨_, rfl, _, _, rfl, rfl, ⟨by decide, by decide⟩, _, _, rfl, rfl, wrB d 8, _, rfl, rfl, ⟨by omega, by omega, by rw [wrB_len]; decide⟩, ?_⟩
        have ln : (List.replicate ((m : Int) / 8 + 1).toNat (wrB d 8)).flatten.length = ((m : Int) / 8 + 1).toNat * 8 := by rw [flat_len, wrB_len]
        refine ⟨_, rfl, _, rfl, _, rfl, (by rw [sOf_len, ln]; exact sz (by omega)), ?_⟩
        rw [cutS_upto]
        exact q _ H4 (by rw [List.length_take, ln]; omega) ((flat_bts (wrB_bts d 8) _).take m) ((bx1.trans bx3).same s4)
      · have w4 : 4 ≤ way := by
          have h1 : ¬ way < 3 := fun z => e (decide_eq_true z)
          have h2 : ¬ way = 3 := fun z => e3 (decide_eq_true (by rw [z]))
          omega
        have c10 : ∃ c, atI (Str.ofString "10").cps.toList (way - 4) = some c ∧ (c = 48 ∨ c = 49) := by
          have : way = 4 ∨ way = 5 := by omega
          rcases this with rfl | rfl
          · exact ⟨49, rfl, .inr rfl⟩
          · exact ⟨48, rfl, .inl rfl⟩
        obtain ⟨c, hc, bc⟩ := c10
        have c01 := bit_at (i := way - 4) (by omega) (by omega)
        refine ⟨_, rfl, _, _, rfl, rfl, _, _, _, rfl, rfl, (by decide), hc, _, rfl, c, _, rfl, rfl, ⟨by omega, by omega⟩, ?_⟩
        refine ⟨_, rfl, b, 4, rfl, bx1.1, by decide, by decide, fun t H2 t0 t1 bx2 => ?_⟩
        refine ⟨_, rfl, _, _, rfl, rfl, .inr ⟨_, rfl, ?_⟩⟩
        have hk : ∃ k : Nat, t * (if decide ((0 : Int) < (m : Int)) = true then (1 : Int) else 0) = (k : Int) ∧ k ≤ 3 ∧ (0 < k → 0 < m) := by
          obtain ⟨t, rfl⟩ := Int.eq_ofNat_of_zero_le t0
          by_cases z : 0 < m
          · rw [if_pos (decide_eq_true (by omega))]
            exact ⟨t, by omega, by omega, fun _ => z⟩
          · rw [if_neg (fun y => z (by have := of_decide_eq_true y; omega))]
            exact ⟨0, by omega, by omega, fun y => absurd y (by omega)⟩
        obtain ⟨k, ek, k3, km⟩ := hk
        refine ⟨_, _, rfl, rfl, .inr (by split <;> constructor <;> decide), _, rfl, ?_⟩
        rw [ek]
        refine ⟨by omega, by omega, for_range (lo := 0) (n := k) (fun i σ H' => ∃ (l : List Nat) (y4 y5 : Option V), σ = [some (.ref b), some (.int (m : Int)), some (.int way), some (.str (sOf l)), y4, y5] ∧ l.length = m ∧ Bts l ∧ Bx4 b H H') ⟨List.replicate m c, _, _, rfl, List.length_replicate, Bts.rep bc, bx1.trans bx2⟩ ?_ ?_⟩
        · rintro i σ H3 hi ⟨l, y4, y5, rfl, ll, bl, bx3⟩
          have m0 := km (by omega)
          refine ⟨_, rfl, _, rfl, b, _, rfl, bx3.1, by omega, by omega, fun at_ H4 a0 a1 bx4 => ?_⟩
          obtain ⟨j, rfl⟩ := Int.eq_ofNat_of_zero_le a0
          have hl : (sOf l).length ≤ sizeLine := by
            rw [sOf_len]
            exact sz (by omega)
          refine ⟨_, rfl, _, rfl, _, rfl, _, rfl, hl, _, rfl, _, _, rfl, rfl, _, _, _, rfl, rfl, two_len', c01, _, _, rfl, rfl, ?_, _, rfl, _, rfl, _, _, rfl, rfl, _, rfl, _, rfl, hl, _, _, rfl, rfl, ?_, ?_⟩
          · rw [cutS_upto, sOf_len, List.length_take]
            exact sz (by show min j l.length + 1 ≤ _; omega)
          · rw [cutS_upto, show ((j : Int) + 1) = ((j + 1 : Nat) : Int) from rfl, cutS_from, show (⟨#[bitN (way - 4)]⟩ : Str) = sOf [bitN (way - 4)] from rfl, sOf_app, sOf_len, sOf_len, List.length_append, List.length_take, List.length_drop]
            exact sz (by show min j l.length + 1 + _ ≤ _; omega)
          · rw [cutS_upto, show ((j : Int) + 1) = ((j + 1 : Nat) : Int) from rfl, cutS_from, show (⟨#[bitN (way - 4)]⟩ : Str) = sOf [bitN (way - 4)] from rfl, sOf_app, sOf_app, put_at (by omega)]
            refine ⟨_, _, _, rfl, by rw [List.length_set]; exact ll, fun x hx => ?_, bx3.trans bx4⟩
            rcases List.mem_or_eq_of_mem_set hx with h | h
            · exact bl x h
            · rw [h]
              exact bitN_bit _
        · rintro σ H3 ⟨l, y4, y5, rfl, ll, bl, bx3⟩
          exact ⟨_, rfl, q l H3 ll bl bx3⟩

def iV (k : Nat) : V := .int (k : Int)
--SPLIT
/-! ### rests -/
theorem cutV_from (xs : List V) (n : Nat) : cutV xs (some (n : Int)) none = xs.drop n := by
  unfold cutV
  rw [HT.sIx_nat, HT.sIx_none]
  by_cases h : n ≤ xs.length
  · rw [Nat.min_eq_left h]
    exact List.take_of_length_le (by rw [List.length_drop]; exact Nat.le_refl _)
  · rw [Nat.min_eq_right (by omega), Nat.sub_self, List.take_zero, List.drop_eq_nil_of_le (by omega)]
theorem cells_at {m : List Nat} {i : Nat} (h : i < m.length) : (cells m)[i]? = some (.str (sOf [(m[i]?).getD 0])) := by
  unfold cells
  rw [List.getElem?_map, List.getElem?_eq_getElem h]
  rfl
theorem cells_drop (m : List Nat) (n : Nat) : (cells m).drop n = cells (m.drop n) := by
  unfold cells
  rw [List.map_drop]
def spTurned : Sp := fun vs H Q _ => ∃ c : Nat, vs = [.str (sOf [c])] ∧ (c = 48 ∨ c = 49) ∧ Q (.str (sOf [flpN c])) H
theorem ok_turned {A : Ad} (T : Txt w K mg base A) : FnOk P w K mg base CX0 1 A.a_turned A.d_turned P_turned spTurned := by
  refine T.F_turned.ok sc_turned (fun vs H Q E h => ?_) (fun cdv Ar outer s H vs Q E hr h => ?_)
  · obtain ⟨c, rfl, _⟩ := h
    rfl
  · obtain ⟨c, rfl, hc, q⟩ := h
    refine ⟨_, (pss_one (ps_ret (pe_ifExp (pt_cmpR op_eq (pv 0) pe_str (nomark _)) pe_str pe_str))), ?_⟩
    refine ⟨_, rfl, rfl, _, rfl, ?_⟩
    rcases hc with rfl | rfl
    · exact iteD0 (fun z => absurd (vstr1.mp z) (by decide)) q
    · exact iteD1 (vstr1.mpr rfl) q
theorem take_flipA {l : List Nat} {p k : Nat} (h : k ≤ p) : (flipA l p).take k = l.take k := by
  unfold flipA
  exact List.take_set_of_le h
def turnsN : List Nat := [0, 1, 14, 16]
theorem flips_snoc (l ps : List Nat) (p : Nat) : flips l (ps ++ [p]) = flipA (flips l ps) p := by
  unfold flips
  rw [List.foldl_append]
  rfl
def spRest : Sp := fun vs H Q _ => ∃ l : List Nat, vs = [.str (sOf l)] ∧ Bts l ∧ l.length ≤ 2000 ∧ ∀ r H', Same H H' → r.length = 16 → Bts r → vlG r = vlG (l ++ List.replicate 16 48) → Q (.str (sOf r)) H'
theorem ok_rest_of {A : Ad} (T : Txt w K mg base A) : FnOk P w K mg base CX0 2 A.a_rest_of A.d_rest_of P_rest_of spRest := by
  have G_turned := ok_turned (P := P) (w := w) (base := base) T
  refine T.F_rest_of.ok sc_rest_of (fun vs H Q E h => ?_) (fun cdv Ar outer s H vs Q E hr h => ?_)
  · obtain ⟨l, rfl, _⟩ := h
    rfl
  · obtain ⟨l, rfl, bl, ll, q⟩ := h
    refine ⟨_, (pss_cons (ps_set (i := 1) sc_rest_of.nd rfl (Or.inl rfl) (pe_op op_cat (pe_callTy (call_list_str rfl) (by rfl) T.z_list (by decide +kernel) (pa_cons (pv 0) pa_nil)) (pe_op op_rep (pe_lst (pa_cons pe_str pa_nil)) (pe_glob (v := .int (16)) (by rfl) T.c_REST ⟨_, rfl⟩))))
      (pss_cons (ps_for PassesOwn.never rfl (pi_range1 (by rfl) T.z_range (pa_cons (pe_callB call_len_str (by rfl) T.z_len PySem.boot_len (pa_cons (pv 0) pa_nil)) pa_nil)) (pg_name (i := 2) sc_rest_of.nd rfl (Or.inl rfl))
      (pss_one (ps_if (pt_cmpR op_eq (pe_ix (r := rIxL K) ix_list (pv 1) (pv 2) (fun _ _ => rfl)) pe_str (nomark _))
      (pss_one (ps_for PassesOwn.never rfl (pi_tup (pe_glob (v := .ref A.t_TURNS) (by rfl) T.c_TURNS rfl)) (pg_name (i := 3) sc_rest_of.nd rfl (Or.inl rfl))
      (pss_one (ps_asg (pe_call G_turned (hr.mono (by decide)) (by rfl) T.g_turned T.F_turned.kp T.b_turned .nil pass0 (pa_cons (pe_ix (r := rIxL K) ix_list (pv 1) (pe_op op_add (pv 2) (pv 3)) (fun _ _ => rfl)) pa_nil)) (pg_sub (pv 1) (pe_op op_add (pv 2) (pv 3)) set_list))))) pss_nil)))
      (pss_one (ps_ret (pe_join pe_str (pe_slice sl_list (pv 1) (po_some (pe_callB call_len_str (by rfl) T.z_len PySem.boot_len (pa_cons (pv 0) pa_nil))) po_none)))))), ?_⟩
    have hl : (sOf l).length ≤ sizeLine := by
      rw [sOf_len]
      exact sz (by omega)
    refine ⟨_, rfl, l, rfl, by omega, fun p1 hp1 => ⟨(by show 1 ≤ sizeLine; decide), fun p2 hp2 => ⟨_, _, _, rfl, rfl, upd_same, by decide, by decide, (by show 1 * 16 ≤ sizeLine; decide), fun p3 hp3 => ⟨_, _, cells l, _, rfl, rfl, ?_, upd_same, ?_, fun L hL => ?_⟩⟩⟩⟩
    · rw [upd_ne (ne_of_none (same_new hp2 _ _ upd_same) hp3), upd_ne (ne_of_none upd_same hp2), upd_same]
      rfl
    · rw [cells_len, show (List.replicate (16 : Int).toNat [V.str (Str.ofString "0")]).flatten = cells (List.replicate 16 48) from rep_one 16 48, cells_len, List.length_replicate]
      exact sz (by omega)
    have e0 : cells l ++ (List.replicate (16 : Int).toNat [V.str (Str.ofString "0")]).flatten = cells (l ++ List.replicate 16 48) := by
      rw [show (List.replicate (16 : Int).toNat [V.str (Str.ofString "0")]).flatten = cells (List.replicate 16 48) from rep_one 16 48]
      unfold cells
      rw [List.map_append]
    rw [e0]
    have sm0 := (((same_new (o := .lst (cells l)) hp1).trans (same_new (o := .lst [V.str (Str.ofString "0")]) hp2)).trans (same_new (o := .lst (List.replicate (16 : Int).toNat [V.str (Str.ofString "0")]).flatten) hp3))
    have fL : H L = none := by
      cases z : H L with
      | none => rfl
      | some o =>
        have := hL.symm.trans (sm0 _ _ z)
        cases this
    have sm1 := sm0.trans (same_new (o := .lst (cells (l ++ List.replicate 16 48))) hL)
    refine ⟨_, rfl, _, rfl, hl, _, rfl, by rw [sOf_len]; omega, by rw [sOf_len]; omega, ?_⟩
    rw [sOf_len, show ((l.length : Int)).toNat = l.length by omega]
    refine for_range (lo := 0) (n := l.length) (fun i σ H' => ∃ (m : List Nat) (y2 y3 : Option V), σ = [some (.str (sOf l)), some (.ref L), y2, y3] ∧ Same H H' ∧ H' L = some (.lst (cells m)) ∧ m.length = l.length + 16 ∧ Bts m ∧ vlG m = vlG (l ++ List.replicate 16 48) ∧ m.take i = List.replicate i 48) ⟨_, none, none, rfl, sm1, upd_same, by rw [List.length_append, List.length_replicate], bl.app (Bts.rep (.inl rfl)), rfl, rfl⟩ ?_ ?_
    · rintro i σ H1 hi ⟨m, y2, y3, rfl, sm, hm, lm, bm, vm, tm⟩
      have e1 : m[i]? = some m[i] := List.getElem?_eq_getElem (by omega)
      have tk : m.take (i + 1) = m.take i ++ [m[i]] := take_more _ _ _ e1
      refine ⟨_, rfl, _, rfl, _, _, _, _, rfl, rfl, SqL.of hm, (by rw [Int.zero_add]; exact atI_nat (cells_at (by omega))), rfl, _, rfl, ?_⟩
      rw [e1, Option.getD_some]
      by_cases z : m[i] = 49
      · refine iteD1 (vstr1.mpr z) ?_
        refine ⟨A.t_TURNS, rfl, ⟨_, T.S_TURNS H1⟩, for_tup (K := K) (a := A.t_TURNS) (xs := [.int 0, .int 1, .int 14, .int 16]) (fun j σ H' => ∃ y3 : Option V, σ = [some (.str (sOf l)), some (.ref L), some (.int (0 + (i : Int))), y3] ∧ Same H H' ∧ H' L = some (.lst (cells (flips m ((turnsN.take j).map (i + ·)))))) ⟨_, rfl, sm, hm⟩ (fun j σ H' _ _ => T.S_TURNS H') ?_ ?_⟩
        · rintro j x σ H2 hx ⟨y3, rfl, sm2, hm2⟩
          obtain ⟨t, ht, rfl, t16⟩ : ∃ t : Nat, turnsN[j]? = some t ∧ V.int (t : Int) = x ∧ t ≤ 16 := by
            rcases j with _ | _ | _ | _ | j
            · exact ⟨0, rfl, Option.some.inj hx, by decide⟩
            · exact ⟨1, rfl, Option.some.inj hx, by decide⟩
            · exact ⟨14, rfl, Option.some.inj hx, by decide⟩
            · exact ⟨16, rfl, Option.some.inj hx, by decide⟩
            · cases hx
          have bM := flips_bt ((turnsN.take j).map (i + ·)) bm
          have lM := flips_len ((turnsN.take j).map (i + ·)) m
          have nx : flips m ((turnsN.take (j + 1)).map (i + ·)) = flipA (flips m ((turnsN.take j).map (i + ·))) (i + t) := by
            rw [take_more _ _ _ ht, List.map_append]
            exact flips_snoc _ _ _
          generalize hM : flips m ((turnsN.take j).map (i + ·)) = M at *
          have it : i + t < M.length := by omega
          have ei : (0 : Int) + (i : Int) + (t : Int) = ((i + t : Nat) : Int) := by omega
          refine ⟨_, rfl, _, rfl, _, rfl, _, _, rfl, rfl, _, _, _, _, rfl, rfl, SqL.of hm2, (by rw [ei]; exact atI_nat (cells_at it)), (M[i + t]?).getD 0, rfl, ?_, _, rfl, _, rfl, _, rfl, _, _, rfl, rfl, L, _, _, _, rfl, rfl, hm2, (by rw [ei]; exact Evl.ixN_nat (by rw [cells_len]; exact it)), ?_⟩
          · rw [List.getElem?_eq_getElem it]
            exact bM _ (List.getElem_mem it)
          · refine ⟨_, rfl, Same.mut sm2 fL, ?_⟩
            rw [upd_same, cells_set, nx]
            rfl
        · rintro σ H2 ⟨y3, rfl, sm2, hm2⟩
          have e4 : (turnsN.take [V.int 0, V.int 1, V.int 14, V.int 16].length).map (i + ·) = [i, i + 1, i + 14, i + 16] := rfl
          rw [e4] at hm2
          refine ⟨_, _, _, rfl, sm2, hm2, by rw [flips_len]; exact lm, flips_bt _ bm, ?_, ?_⟩
          · rw [vlG_flips _ bm (fun p hp => ?_), lm, xs_four (by omega), Nat.xor_zero, vm]
            have : p ≤ i + 16 := by
              rcases List.mem_cons.mp hp with rfl | hp
              · omega
              rcases List.mem_cons.mp hp with rfl | hp
              · omega
              rcases List.mem_cons.mp hp with rfl | hp
              · omega
              rcases List.mem_cons.mp hp with rfl | hp
              · omega
              · cases hp
            omega
          · show (flipA (flipA (flipA (flipA m i) (i + 1)) (i + 14)) (i + 16)).take (i + 1) = _
            rw [take_flipA (by omega), take_flipA (by omega), take_flipA (by omega)]
            have e5 : (flipA m i)[i]? = some 48 := by
              unfold flipA
              rw [List.getElem?_set_self (by omega), e1, Option.getD_some, z]
              rfl
            rw [take_more _ _ _ e5, take_flipA (Nat.le_refl _), tm, List.replicate_succ']
      · refine iteD0 (fun y => z (vstr1.mp y)) ?_
        refine ⟨m, _, _, rfl, sm, hm, lm, bm, vm, ?_⟩
        rw [tk, tm, (bm.at e1).resolve_right z, List.replicate_succ']
    · rintro σ H1 ⟨m, y2, y3, rfl, sm, hm, lm, bm, vm, tm⟩
      refine ⟨⟨_, rfl⟩, _, rfl, _, rfl, _, rfl, hl, _, rfl, _, _, rfl, SqL.of hm, fun p hp => ?_⟩
      rw [sOf_len, cutV_from, cells_drop]
      have ld : (m.drop l.length).length = 16 := by
        rw [List.length_drop]
        omega
      refine ⟨_, _, (m.drop l.length).map fun c => sOf [c], rfl, rfl, .inl (SqL.of (by rw [← cells_strs]; exact upd_same)), join_size (by omega), ?_⟩
      rw [join_cells]
      refine q _ _ (sm.trans (same_new hp)) ld (bm.drop _) ?_
      have e6 : m = List.replicate l.length 48 ++ m.drop l.length := by
        rw [← tm, List.take_append_drop]
      rw [← vm]
      conv => rhs; rw [e6, vlG_ahead]
def spSealed : Sp := fun vs H Q _ => ∃ l : List Nat, vs = [.str (sOf l)] ∧ Bts l ∧ l.length ≤ 2000 ∧ ∀ r H', Same H H' → r.length = 16 → Bts r → vlG r = vlG (l ++ List.replicate 16 48) → Q (.str (sOf (l ++ r))) H'
theorem ok_sealed {A : Ad} (T : Txt w K mg base A) : FnOk P w K mg base CX0 3 A.a_sealed A.d_sealed P_sealed spSealed := by
  have G_rest_of := ok_rest_of (P := P) (w := w) (base := base) T
  refine T.F_sealed.ok sc_sealed (fun vs H Q E h => ?_) (fun cdv Ar outer s H vs Q E hr h => ?_)
  · obtain ⟨l, rfl, _⟩ := h
    rfl
  · obtain ⟨l, rfl, bl, ll, q⟩ := h
    refine ⟨_, (pss_one (ps_ret (pe_op op_add_str (pv 0) (pe_call G_rest_of (hr.mono (by decide)) (by rfl) T.g_rest_of T.F_rest_of.kp T.b_rest_of .nil pass0 (pa_cons (pv 0) pa_nil))))), ?_⟩
    refine ⟨_, rfl, _, rfl, l, rfl, bl, ll, fun r H1 s1 lr br vr => ⟨_, _, rfl, rfl, ?_, ?_⟩⟩
    · rw [sOf_len, sOf_len]
      exact sz (by omega)
    · rw [sOf_app]
      exact q r H1 s1 lr br vr
theorem sealed_val {l r : List Nat} (lr : r.length = 16) (vr : vlG r = vlG (l ++ List.replicate 16 48)) : vlG (l ++ r) = 0 := by
  rw [vlG_app] at vr
  rw [vlG_app, vr, lr, List.length_replicate, vlG_zeros, Nat.xor_zero, Nat.xor_self]
theorem cutS_less (l : List Nat) (k : Nat) (hk : 0 < k) : cutS (sOf l) none (some (-(k : Int))) = sOf (l.take (l.length - k)) := by
  unfold cutS
  rw [sOf_len, sOf_list, HT.sIx_none]
  have e : HT.sIx l.length l.length (some (-(k : Int))) = l.length - k := by
    unfold HT.sIx
    simp only [Option.getD_some]
    split <;> omega
  rw [e]
  show sOf ((l.drop 0).take (l.length - k - 0)) = _
  rw [List.drop_zero, Nat.sub_zero]
def spIsSealed : Sp := fun vs H Q _ => ∃ l : List Nat, vs = [.str (sOf l)] ∧ Bts l ∧ l.length ≤ 2000 ∧ ∀ H', Same H H' → Q (.bl (decide (16 ≤ l.length ∧ vlG l = 0))) H'
theorem ok_is_sealed {A : Ad} (T : Txt w K mg base A) : FnOk P w K mg base CX0 4 A.a_is_sealed A.d_is_sealed P_is_sealed spIsSealed := by
  have G_sealed := ok_sealed (P := P) (w := w) (base := base) T
  refine T.F_is_sealed.ok sc_is_sealed (fun vs H Q E h => ?_) (fun cdv Ar outer s H vs Q E hr h => ?_)
  · obtain ⟨l, rfl, _⟩ := h
    rfl
  · obtain ⟨l, rfl, bl, ll, q⟩ := h
    refine ⟨_, (pss_one (ps_ret (pe_and (pe_cmpR op_ge (pe_callB call_len_str (by rfl) T.z_len PySem.boot_len (pa_cons (pv 0) pa_nil)) (pe_glob (v := .int (16)) (by rfl) T.c_REST ⟨_, rfl⟩) (nomark _)) (pe_one (pe_cmpR op_eq (pe_call G_sealed (hr.mono (by decide)) (by rfl) T.g_sealed T.F_sealed.kp T.b_sealed .nil pass0 (pa_cons (pe_slice sl_str (pv 0) po_none (po_some (pe_un un_neg (pe_glob (v := .int (16)) (by rfl) T.c_REST ⟨_, rfl⟩)))) pa_nil)) (pv 0) (nomark _)))))), ?_⟩
    have hl : (sOf l).length ≤ sizeLine := by
      rw [sOf_len]
      exact sz (by omega)
    refine ⟨_, rfl, _, rfl, hl, _, _, rfl, rfl, _, rfl, ?_⟩
    by_cases z : 16 ≤ l.length
    · refine iteD1 (by rw [sOf_len]; omega) ?_
      have e1 := cutS_less l 16 (by decide)
      refine ⟨_, rfl, _, rfl, _, rfl, _, rfl, hl, l.take (l.length - 16), (by rw [show (-16 : Int) = -((16 : Nat) : Int) from rfl, e1]; rfl), bl.take _, (by rw [List.length_take]; omega), fun r H1 s1 lr br vr => ?_⟩
      refine ⟨_, rfl, rfl, ?_⟩
      have e2 : decide (V.str (sOf (l.take (l.length - 16) ++ r)) = V.str (sOf l)) = decide (16 ≤ l.length ∧ vlG l = 0) := by
        apply decide_eq_decide.mpr
        have ld : (l.drop (l.length - 16)).length = 16 := by
          rw [List.length_drop]
          omega
        constructor
        · intro h
          refine ⟨z, ?_⟩
          rw [← vstr.mp h]
          exact sealed_val lr vr
        · rintro ⟨_, h⟩
          refine vstr.mpr ?_
          have h2 : vlG r = vlG (l.drop (l.length - 16)) := by
            rw [← List.take_append_drop (l.length - 16) l, vlG_app, ld] at h
            rw [vr, vlG_app, List.length_replicate, vlG_zeros, Nat.xor_zero]
            exact xor_eq_zero h
          rw [(vlG_small r (by omega)).2 _ br (bl.drop _) (by omega) h2, List.take_append_drop]
      rw [e2]
      exact q H1 s1
    · refine iteD0 (by rw [sOf_len]; omega) ?_
      have := q H (Same.refl H)
      rw [decide_eq_false (fun y => z y.1)] at this
      exact this

--SPLIT
/-! ### places drawn -/
def spPlaces : Sp := fun vs H Q _ => ∃ (b : Addr) (many n : Nat) (x y : Int), vs = [.ref b, .int x, .int y] ∧ x = many ∧ y = n ∧ Bag4 H b ∧ 1 ≤ n ∧ n ≤ 2000 ∧ many ≤ 100 ∧
  ∀ (p : Addr) (ps : List Nat) H', H p = none → Bx4 b H H' → H' p = some (.lst (ps.map iV)) → ps.length = min many n → ps.Nodup → (∀ x ∈ ps, x < n) → Q (.ref p) H'
theorem erase_perm : ∀ (l : List Nat) (j : Nat) (h : j < l.length), (l[j] :: l.eraseIdx j).Perm l
  | x :: r, 0, _ => List.Perm.refl _
  | x :: r, j + 1, h => by
    have hj : j < r.length := by
      rw [List.length_cons] at h
      omega
    have ih := erase_perm r j hj
    show (r[j] :: x :: r.eraseIdx j).Perm (x :: r)
    exact (List.Perm.swap x r[j] _).trans (ih.cons x)
theorem erase_map {α β : Type} (f : α → β) : ∀ (l : List α) (j : Nat), (l.map f).eraseIdx j = (l.eraseIdx j).map f
  | [], _ => rfl
  | x :: r, 0 => rfl
  | x :: r, j + 1 => by
    show f x :: (r.map f).eraseIdx j = f x :: (r.eraseIdx j).map f
    rw [erase_map f r j]
theorem seq_nat {n j : Nat} (h : j < n) : seqIndex? (j : Int) n = some j := (ixN_seq (Evl.ixN_nat h)).1
theorem ok_places {A : Ad} (T : Txt w K mg base A) : FnOk P w K mg base CX0 2 A.a_places A.d_places P_places spPlaces := by
  have G_take := ok_take (P := P) (w := w) (base := base) T
  refine T.F_places.ok sc_places (fun vs H Q E h => ?_) (fun cdv Ar outer s H vs Q E hr h => ?_)
  · obtain ⟨b, many, n, x, y, rfl, _⟩ := h
    rfl
  · obtain ⟨b, many, n, _, _, rfl, rfl, rfl, hb, n1, n2, m1, q⟩ := h
    refine ⟨_, (pss_cons (ps_set (i := 3) sc_places.nd rfl (Or.inl rfl) (pe_callTy (call_list_rng rfl) (by rfl) T.z_list (by decide +kernel) (pa_cons (pe_callTy cr_range1 (by rfl) T.z_range (by decide +kernel) (pa_cons (pv 2) pa_nil)) pa_nil)))
      (pss_cons (ps_set (i := 4) sc_places.nd rfl (Or.inl rfl) (pe_lst pa_nil))
      (pss_cons (ps_for PassesOwn.never rfl (pi_range1 (by rfl) T.z_range (pa_cons (pe_callB (call_min2 rfl) (by rfl) T.z_min (by decide +kernel) (pa_cons (pv 1) (pa_cons (pv 2) pa_nil))) pa_nil)) (pg_name (i := 5) sc_places.nd rfl (Or.inl rfl))
      (pss_one (ps_expr (pe_bm PySem.F.plainAttrs_list PySem.F.slot_list_append PySem.F.type_list_append mt_append (pv 4) (pa_cons (pe_bm PySem.F.plainAttrs_list PySem.F.slot_list_pop PySem.F.type_list_pop mt_popAt (pv 3) (pa_cons (pe_call G_take (hr.mono (by decide)) (by rfl) T.g_take T.F_take.kp T.b_take .nil pass0 (pa_cons (pv 0) (pa_cons (pe_callB (r := fun xs H Q => ∃ p ys, xs = [.ref p] ∧ (SqL K H p ys ∨ SqT K H p ys) ∧ Q (.int ys.length) H) call_len_seq (by rfl) T.z_len PySem.boot_len (pa_cons (pv 3) pa_nil)) pa_nil))) pa_nil)) pa_nil)))))
      (pss_one (ps_ret (pv 4)))))), ?_⟩
    refine ⟨_, rfl, _, rfl, fun r hr => ⟨r, n, _, rfl, upd_same, rfl, by omega, fun L hL => ⟨(by show 0 ≤ sizeLine; decide), fun F hF => ?_⟩⟩⟩
    have s3 := ((same_new (o := .rng 0 (n : Int)) hr).trans (same_new (o := .lst ((List.range n).map fun (k : Nat) => V.int (k : Int))) hL)).trans (same_new (o := .lst []) hF)
    have B3 : Bx4 b H _ := (Bx4.refl hb).same s3
    have fL : H L = none := by
      cases z : H L with
      | none => rfl
      | some o => exact absurd (hL.symm.trans ((same_new (o := .rng 0 (n : Int)) hr) _ _ z)) (by simp)
    have fF : H F = none := by
      cases z : H F with
      | none => rfl
      | some o => exact absurd (hF.symm.trans (((same_new (o := .rng 0 (n : Int)) hr).trans (same_new (o := .lst ((List.range n).map fun (k : Nat) => V.int (k : Int))) hL)) _ _ z)) (by simp)
    have nLF : L ≠ F := ne_of_none upd_same hF
    have nLb : L ≠ b := hb.ne fL
    have nFb : F ≠ b := hb.ne fF
    have em : (if (n : Int) < (many : Int) then (n : Int) else (many : Int)).toNat = min many n := by
      split <;> omega
    refine ⟨_, rfl, _, rfl, _, _, rfl, _, rfl, by split <;> omega, by split <;> omega, ?_⟩
    rw [em]
    refine for_range (lo := 0) (n := min many n) (fun i σ H' => ∃ (fs ls : List Nat) (y5 : Option V), σ = [some (.ref b), some (.int (many : Int)), some (.int (n : Int)), some (.ref L), some (.ref F), y5] ∧ Bx4 b H H' ∧ H' L = some (.lst (ls.map iV)) ∧ H' F = some (.lst (fs.map iV)) ∧ fs.length = i ∧ ls.length = n - i ∧ (fs ++ ls).Nodup ∧ ∀ x ∈ fs ++ ls, x < n) ⟨[], List.range n, none, rfl, B3, by rw [upd_ne nLF, upd_same]; rfl, upd_same, rfl, by rw [List.length_range]; rfl, List.nodup_range, fun x hx => List.mem_range.mp hx⟩ ?_ ?_
    · rintro i σ H1 hi ⟨fs, ls, y5, rfl, bx, hL1, hF1, lf, llen, nd, lt⟩
      have l0 : 0 < ls.length := by omega
      have ml : (ls.map iV).length = ls.length := List.length_map ..
      refine ⟨_, rfl, .inl ⟨rfl, _, SqL.of hF1⟩, _, rfl, .inl ⟨rfl, _, SqL.of hL1⟩, _, rfl, _, rfl, _, _, rfl, .inl (SqL.of hL1), b, _, rfl, bx.1, by omega, by omega, fun d H2 d0 d1 bx2 => ?_⟩
      obtain ⟨j, rfl⟩ := Int.eq_ofNat_of_zero_le d0
      have jl : j < ls.length := by omega
      refine ⟨L, ls.map iV, _, j, iV ls[j], rfl, rfl, bx2.2 _ _ nLb hL1, by omega, by omega, seq_nat (by omega), by rw [List.getElem?_map, List.getElem?_eq_getElem jl]; rfl, ?_⟩
      refine ⟨F, _, _, rfl, rfl, (by rw [upd_ne nLF.symm]; exact bx2.2 _ _ nFb hF1), (by rw [List.length_map]; exact szl (by omega)), ?_⟩
      have pm : (fs ++ [ls[j]] ++ ls.eraseIdx j).Perm (fs ++ ls) := by
        rw [List.append_assoc]
        exact List.Perm.append_left fs (erase_perm ls j jl)
      refine ⟨fs ++ [ls[j]], ls.eraseIdx j, _, rfl, ((bx.trans bx2).mut fL nLb).mut fF nFb, ?_, ?_, ?_, ?_, pm.nodup_iff.mpr nd, fun x hx => lt x (pm.mem_iff.mp hx)⟩
      · rw [upd_ne nLF, upd_same, erase_map]
      · rw [upd_same, List.map_append]
        rfl
      · rw [List.length_append, lf]
        rfl
      · rw [List.length_eraseIdx_of_lt jl]
        omega
    · rintro σ H1 ⟨fs, ls, y5, rfl, bx, hL1, hF1, lf, llen, nd, lt⟩
      refine ⟨_, rfl, q F fs H1 fF bx hF1 lf (List.nodup_append.mp nd).1 fun x hx => lt x (List.mem_append_left _ hx)⟩
def spLTurned : Sp := fun vs H Q _ => ∃ (l : List Nat) (pl : Addr) (ps : List Nat), vs = [.str (sOf l), .ref pl] ∧ H pl = some (.lst (ps.map iV)) ∧ Bts l ∧ l.length ≤ 2000 ∧ (∀ p ∈ ps, p < l.length) ∧ ∀ H', Same H H' → Q (.str (sOf (flips l ps))) H'
theorem flip_at {c : Nat} (h : c = 48 ∨ c = 49) : atI (Str.ofString "10").cps.toList (if decide (V.str (sOf [c]) = V.str (Str.ofString "1")) = true then (1 : Int) else 0) = some (flpN c) := by
  rcases h with rfl | rfl
  · rw [show decide (V.str (sOf [48]) = V.str (Str.ofString "1")) = false from decide_eq_false (fun h => by have := V.str.inj h; revert this; decide)]
    rfl
  · rw [show decide (V.str (sOf [49]) = V.str (Str.ofString "1")) = true from decide_eq_true rfl]
    rfl
theorem ok_lturned {A : Ad} (T : Txt w K mg base A) : FnOk P w K mg base CX0 1 A.a_lturned A.d_lturned P_lturned spLTurned := by
  refine T.F_lturned.ok sc_lturned (fun vs H Q E h => ?_) (fun cdv Ar outer s H vs Q E hr h => ?_)
  · obtain ⟨l, pl, ps, rfl, _⟩ := h
    rfl
  · obtain ⟨l, pl, ps, rfl, hpl, bl, ll, lt, q⟩ := h
    refine ⟨_, (pss_cons (ps_setLc (i := 2) (own := [("_law_bit", 4)]) (g := gName 4) (tt := tYes) (by rfl) sc_lturned.nd rfl rfl (sw_true rfl rfl rfl (by decide +kernel)) (pi_str (pv 0)) (blkOk_by (own := [("_law_bit", 4)]) (N := N_lturned) (sc := defScope s_lturned) (by decide +kernel)) (fun _ _ _ _ _ => pg_name (i := 4) sc_lturned.nd rfl (Or.inl rfl)) (fun _ _ _ _ _ => pts_nil) (fun s5 H5 C5 cl5 fp5 => (pv 4)))
      (pss_cons (ps_for PassesOwn.never rfl (pi_list (pv 1)) (pg_name (i := 3) sc_lturned.nd rfl (Or.inl rfl))
      (pss_one (ps_asg (pe_ix ix_str pe_str (pe_callTy call_int1 (by rfl) T.z_int (by decide +kernel) (pa_cons (pe_cmpR op_eq (pe_ix (r := rIxL K) ix_list (pv 2) (pv 3) (fun _ _ => rfl)) pe_str (nomark _)) pa_nil)) (fun _ _ => rfl)) (pg_sub (pv 2) (pv 3) set_list))))
      (pss_one (ps_ret (pe_join pe_str (pv 2)))))), ?_⟩
    have sz1 : (sOf l).cps.size = l.length := by simp [sOf]
    refine ⟨_, rfl, _, rfl, fun D hD => lc_it (walk_str (z := sOf l)) (fun i H' => Same H H' ∧ H' D = some (.lst (cells (l.take i)))) ⟨same_new hD, upd_same⟩ (fun _ _ _ _ => trivial) ?_ ?_⟩
    · rintro i x H1 H2 hi ⟨sm, hD1⟩ ⟨rfl, c, hc, rfl⟩
      have hc' : l[i]? = some c := by simpa [sOf] using hc
      refine ⟨rfl, _, rfl, _, hD1, ?_, Same.mut sm hD, ?_⟩
      · rw [cells_len, List.length_take]
        exact szl (by omega)
      · rw [upd_same, take_more _ _ _ hc', ← cells_app]
        rfl
    · rintro H1 ⟨sm, hD1⟩
      rw [sz1, List.take_length] at hD1
      have npD : pl ≠ D := ne_of_none hpl hD
      refine ⟨_, rfl, pl, rfl, ⟨_, SqL.of (sm _ _ hpl)⟩, for_list (K := K) (a := pl) (xs := ps.map iV) (fun i σ H' => ∃ y3 : Option V, σ = [some (.str (sOf l)), some (.ref pl), some (.ref D), y3, none] ∧ Same H H' ∧ H' D = some (.lst (cells (flips l (ps.take i))))) ⟨none, rfl, sm, hD1⟩ (fun i σ H' _ ⟨_, _, s, _⟩ => SqL.of (s _ _ hpl)) ?_ ?_⟩
      · rintro i x σ H2 hx ⟨y3, rfl, sm2, hD2⟩
        rw [List.getElem?_map] at hx
        obtain ⟨p, hp, rfl⟩ : ∃ p, ps[i]? = some p ∧ iV p = x := by
          cases e : ps[i]? with
          | none =>
            rw [e] at hx
            cases hx
          | some p =>
            rw [e] at hx
            exact ⟨p, rfl, Option.some.inj hx⟩
        have pl2 := lt p (List.mem_of_getElem? hp)
        have bM := flips_bt (ps.take i) bl
        have lM := flips_len (ps.take i) l
        have nx : flips l (ps.take (i + 1)) = flipA (flips l (ps.take i)) p := by
          rw [take_more _ _ _ hp]
          exact flips_snoc _ _ _
        generalize hM : flips l (ps.take i) = M at *
        have it : p < M.length := by omega
        have bc : (M[p]?).getD 0 = 48 ∨ (M[p]?).getD 0 = 49 := by
          rw [List.getElem?_eq_getElem it]
          exact bM _ (List.getElem_mem it)
        refine ⟨_, rfl, _, rfl, _, _, _, _, rfl, rfl, SqL.of hD2, atI_nat (cells_at it), rfl, .inr ⟨_, rfl, _, _, _, rfl, rfl, (by decide), flip_at bc, _, rfl, _, rfl, D, _, _, _, rfl, rfl, hD2, Evl.ixN_nat (by rw [cells_len]; exact it), ?_⟩⟩
        refine ⟨_, rfl, Same.mut sm2 hD, ?_⟩
        rw [upd_same, show (⟨#[flpN ((M[p]?).getD 0)]⟩ : Str) = sOf [flpN ((M[p]?).getD 0)] from rfl, cells_set, nx]
        rfl
      · rintro σ H2 ⟨y3, rfl, sm2, hD2⟩
        rw [List.length_map, List.take_length] at hD2
        refine ⟨⟨_, rfl⟩, _, rfl, _, _, (flips l ps).map fun c => sOf [c], rfl, rfl, .inl (SqL.of (by rw [← cells_strs]; exact hD2)), join_size (by rw [flips_len]; omega), ?_⟩
        rw [join_cells]
        exact q H2 sm2
--SPLIT
/-! ### changes drawn -/
def Chg (n : Nat) (b p : Addr) (H : Hp) (v : V) : Prop := ∃ (a : Addr) (ps : List Nat), v = .ref a ∧ a ≠ b ∧ a ≠ p ∧ H a = some (.lst (ps.map iV)) ∧ (∀ x ∈ ps, x < n) ∧ xsG n ps ≠ 0
theorem Chg.bx {n : Nat} {b p : Addr} {H H' : Hp} {v : V} (h : Chg n b p H v) (x : Bx4 b H H') : Chg n b p H' v := by
  obtain ⟨a, ps, e, nb, np, ha, r⟩ := h
  exact ⟨a, ps, e, nb, np, x.2 _ _ nb ha, r⟩
theorem Chg.upd {n : Nat} {b p : Addr} {H : Hp} {v : V} {o : HO} (h : Chg n b p H v) : Chg n b p (L2.upd H p o) v := by
  obtain ⟨a, ps, e, nb, np, ha, r⟩ := h
  exact ⟨a, ps, e, nb, np, by rw [upd_ne np]; exact ha, r⟩
theorem Chg.same {n : Nat} {b p : Addr} {H H' : Hp} {v : V} (h : Chg n b p H v) (s : Same H H') : Chg n b p H' v := by
  obtain ⟨a, ps, e, nb, np, ha, r⟩ := h
  exact ⟨a, ps, e, nb, np, s _ _ ha, r⟩
theorem Chg.to {n : Nat} {b p q : Addr} {H : Hp} {v : V} (h : Chg n b p H v) (hq : H q = none) : Chg n b q H v := by
  obtain ⟨a, ps, e, nb, np, ha, r⟩ := h
  exact ⟨a, ps, e, nb, ne_of_none ha hq, ha, r⟩
def Chs (n : Nat) (b p : Addr) (H0 H : Hp) (vs : List V) : Prop := Bx4 b H0 H ∧ H0 p = none ∧ H p = some (.lst vs) ∧ ∀ v ∈ vs, Chg n b p H v
def spChanges : Sp := fun vs H Q _ => ∃ (b : Addr) (n : Nat) (x : Int), vs = [.ref b, .int x] ∧ x = n ∧ Bag4 H b ∧ 16 ≤ n ∧ n ≤ 1100 ∧ ∀ p vs H', Chs n b p H H' vs → Q (.ref p) H'
theorem ok_changes {A : Ad} (T : Txt w K mg base A) : FnOk P w K mg base CX0 3 A.a_changes A.d_changes P_changes spChanges := by
  have G_take := ok_take (P := P) (w := w) (base := base) T
  have G_places := ok_places (P := P) (w := w) (base := base) T
  refine T.F_changes.ok sc_changes (fun vs H Q E h => ?_) (fun cdv Ar outer s H vs Q E hr h => ?_)
  · obtain ⟨b, n, x, rfl, _⟩ := h
    rfl
  · obtain ⟨b, n, _, rfl, rfl, hb, n16, n11, q⟩ := h
    refine ⟨_, (pss_cons (ps_set (i := 2) sc_changes.nd rfl (Or.inl rfl) (pe_lstW pa_nil))
      (pss_cons (ps_for PassesOwn.never rfl (pi_range1 (by rfl) T.z_range (pa_cons pe_int pa_nil)) (pg_name (i := 3) sc_changes.nd rfl (Or.inl rfl))
      (pss_cons (ps_expr (pe_bm PySem.F.plainAttrs_list PySem.F.slot_list_append PySem.F.type_list_append mt_append (pv 2) (pa_cons (pe_call G_places (hr.mono (by decide)) (by rfl) T.g_places T.F_places.kp T.b_places .nil pass0 (pa_cons (pv 0) (pa_cons pe_int (pa_cons (pv 1) pa_nil)))) pa_nil)))
      (pss_cons (ps_expr (pe_bm PySem.F.plainAttrs_list PySem.F.slot_list_append PySem.F.type_list_append mt_append (pv 2) (pa_cons (pe_call G_places (hr.mono (by decide)) (by rfl) T.g_places T.F_places.kp T.b_places .nil pass0 (pa_cons (pv 0) (pa_cons pe_int (pa_cons (pv 1) pa_nil)))) pa_nil)))
      (pss_cons (ps_expr (pe_bm PySem.F.plainAttrs_list PySem.F.slot_list_append PySem.F.type_list_append mt_append (pv 2) (pa_cons (pe_call G_places (hr.mono (by decide)) (by rfl) T.g_places T.F_places.kp T.b_places .nil pass0 (pa_cons (pv 0) (pa_cons (pe_op op_add pe_int (pe_op op_mul pe_int (pe_call G_take (hr.mono (by decide)) (by rfl) T.g_take T.F_take.kp T.b_take .nil pass0 (pa_cons (pv 0) (pa_cons pe_int pa_nil))))) (pa_cons (pv 1) pa_nil)))) pa_nil)))
      (pss_cons (ps_set (i := 4) sc_changes.nd rfl (by first | exact Or.inl rfl | exact Or.inr rfl) (pe_call G_take (hr.mono (by decide)) (by rfl) T.g_take T.F_take.kp T.b_take .nil pass0 (pa_cons (pv 0) (pa_cons (pe_op op_sub (pv 1) pe_int) pa_nil))))
      (pss_cons (ps_set (i := 5) sc_changes.nd rfl (by first | exact Or.inl rfl | exact Or.inr rfl) (pe_op op_add pe_int (pe_call G_take (hr.mono (by decide)) (by rfl) T.g_take T.F_take.kp T.b_take .nil pass0 (pa_cons (pv 0) (pa_cons pe_int pa_nil)))))
      (pss_one (ps_expr (pe_bm PySem.F.plainAttrs_list PySem.F.slot_list_append PySem.F.type_list_append mt_append (pv 2) (pa_cons (pe_lc (own := [("_law_j", 7)]) (g := gName 7) (by rfl) sc_changes.nd (pi_range1 (by rfl) T.z_range (pa_cons pe_int pa_nil)) (blkOk_by (own := [("_law_j", 7)]) (N := N_changes) (sc := defScope s_changes) (by decide +kernel)) (fun _ _ _ _ _ => pg_name (i := 7) sc_changes.nd rfl (Or.inl rfl)) (fun _ _ _ _ _ => (pts_one (pt_cmpR op_eq (pe_op op_odd (pe_op op_shr (pv 5) (pv 7)) pe_int) pe_int (nomark _)))) (fun s5 H5 C5 cl5 fp5 => (pe_op op_add (pv 4) (pv 7)))) pa_nil))))))))))
      (pss_cons (ps_if (pt_cmpR op_le (pv 1) pe_int (nomark _))
      (pss_one (ps_for PassesOwn.never rfl (pi_range1 (by rfl) T.z_range (pa_cons (pv 1) pa_nil)) (pg_name (i := 6) sc_changes.nd rfl (by first | exact Or.inl rfl | exact Or.inr rfl))
      (pss_cons (ps_expr (pe_bm PySem.F.plainAttrs_list PySem.F.slot_list_append PySem.F.type_list_append mt_append (pv 2) (pa_cons (pe_lstW (pa_cons (pv 6) pa_nil)) pa_nil)))
      (pss_one (ps_set (i := 2) sc_changes.nd rfl (Or.inl rfl) (pe_op op_catLW (pv 2) (pe_lc (own := [("_law_j", 7)]) (g := gName 7) (tt := tYes) (by rfl) sc_changes.nd (pi_range1 (by rfl) T.z_range (pa_cons (pv 6) pa_nil)) (blkOk_by (own := [("_law_j", 7)]) (N := N_changes) (sc := defScope s_changes) (by decide +kernel)) (fun _ _ _ _ _ => pg_name (i := 7) sc_changes.nd rfl (Or.inl rfl)) (fun _ _ _ _ _ => pts_nil) (fun s5 H5 C5 cl5 fp5 => (pe_lstW (pa_cons (pv 6) (pa_cons (pv 7) pa_nil))))))))))) pss_nil)
      (pss_one (ps_ret (pv 2)))))), ?_⟩
    refine ⟨(by show 0 ≤ 100000; decide), fun F H0 nF s0 hF => ?_⟩
    -- one more
    have more : ∀ (F : Addr) (G G2 : Hp) (vs : List V) (a : Addr) (ps : List Nat), Chs n b F H G vs → G a = none → Bx4 b G G2 → G2 a = some (.lst (ps.map iV)) → (∀ x ∈ ps, x < n) → xsG n ps ≠ 0 → Chs n b F H (upd G2 F (.lst (vs ++ [.ref a]))) (vs ++ [.ref a]) := by
      intro F G G2 vs a ps c na bx ha lt ne
      obtain ⟨c1, c2, c3, c4⟩ := c
      have nab : a ≠ b := c1.1.ne na
      have naF : a ≠ F := (ne_of_none c3 na).symm
      refine ⟨(c1.trans bx).mut c2 (hb.ne c2), c2, upd_same, fun v hv => ?_⟩
      rcases List.mem_append.mp hv with h | h
      · exact ((c4 v h).bx bx).upd
      · rw [List.mem_singleton.mp h]
        exact ⟨a, ps, rfl, nab, naF, by rw [upd_ne naF]; exact ha, lt, ne⟩
    refine ⟨_, rfl, by decide, by decide, for_range (lo := 0) (n := 3) (fun i σ H' => ∃ (vs : List V) (y3 y4 y5 y6 y7 : Option V), σ = [some (.ref b), some (.int (n : Int)), some (.ref F), y3, y4, y5, y6, y7] ∧ vs.length = 4 * i ∧ Chs n b F H H' vs) ⟨[], none, none, none, none, none, rfl, rfl, (Bx4.refl hb).same s0, nF, hF, fun v h => by cases h⟩ ?_ ?_⟩
    · rintro i σ G0 hi ⟨vs, y3, y4, y5, y6, y7, rfl, lv, C0⟩
      have nFb : F ≠ b := hb.ne nF
      refine ⟨_, rfl, .inl ⟨rfl, _, SqL.of C0.2.2.1⟩, _, rfl, _, rfl, b, 1, n, _, _, rfl, rfl, rfl, C0.1.1, by omega, by omega, by decide, fun a1 p1 G1 na1 bx1 ha1 l1 nd1 lt1 => ?_⟩
      refine ⟨F, _, _, rfl, rfl, bx1.2 _ _ nFb C0.2.2.1, szl (by omega), ?_⟩
      have C1 := more _ _ _ _ _ _ C0 na1 bx1 ha1 lt1 (by
        obtain ⟨x, rfl⟩ : ∃ x, p1 = [x] := List.length_eq_one_iff.mp (by omega)
        exact xs_one n x)
      refine ⟨_, rfl, .inl ⟨rfl, _, SqL.of C1.2.2.1⟩, _, rfl, _, rfl, b, 2, n, _, _, rfl, rfl, rfl, C1.1.1, by omega, by omega, by decide, fun a2 p2 G2 na2 bx2 ha2 l2 nd2 lt2 => ?_⟩
      refine ⟨F, _, _, rfl, rfl, bx2.2 _ _ nFb C1.2.2.1, szl (by rw [List.length_append]; show _ + 1 < _; omega), ?_⟩
      have C2 := more _ _ _ _ _ _ C1 na2 bx2 ha2 lt2 (by
        obtain ⟨x, y, rfl⟩ : ∃ x y, p2 = [x, y] := by
          have l2' : p2.length = 2 := by omega
          match p2, l2' with
          | [x, y], _ => exact ⟨x, y, rfl⟩
        refine xs_two (lt2 x (by simp)) (lt2 y (by simp)) n11 (fun e => ?_)
        rw [e] at nd2
        simp at nd2)
      refine ⟨_, rfl, .inl ⟨rfl, _, SqL.of C2.2.2.1⟩, _, rfl, _, rfl, b, 8, rfl, C2.1.1, by decide, by decide, fun d G3 d0 d1 bx3 => ?_⟩
      obtain ⟨d, rfl⟩ := Int.eq_ofNat_of_zero_le d0
      refine ⟨_, _, rfl, rfl, .inl ⟨by decide, by decide⟩, _, _, rfl, rfl, _, rfl, b, 1 + 2 * d, n, _, _, rfl, (by push_cast; rfl), rfl, bx3.1, by omega, by omega, by omega, fun a3 p3 G4 na3 bx4 ha3 l3 nd3 lt3 => ?_⟩
      refine ⟨F, _, _, rfl, rfl, bx4.2 _ _ nFb (bx3.2 _ _ nFb C2.2.2.1), szl (by rw [List.length_append, List.length_append]; show _ + 1 + 1 < _; omega), ?_⟩
      have C3 := more _ _ _ _ _ _ C2 (bx3.free na3) (bx3.trans bx4) ha3 lt3 (xs_odd n11 lt3 (by omega))
      refine ⟨_, rfl, _, rfl, _, _, rfl, rfl, b, _, rfl, C3.1.1, by omega, by omega, fun g G5 g0 g1 bx5 => ?_⟩
      obtain ⟨g, rfl⟩ := Int.eq_ofNat_of_zero_le g0
      refine ⟨_, rfl, b, 65535, rfl, bx5.1, by decide, by decide, fun s G6 s0' s1' bx6 => ⟨_, _, rfl, rfl, ?_⟩⟩
      obtain ⟨s, rfl⟩ := Int.eq_ofNat_of_zero_le s0'
      have bx56 := bx5.trans bx6
      have hF6 := bx56.2 _ _ nFb C3.2.2.1
      refine ⟨_, rfl, .inl ⟨rfl, _, SqL.of hF6⟩, _, rfl, by decide, by decide, fun D hD => ?_⟩
      have fD := bx56.free hD
      refine lc_range (lo := 0) (n := 16) (fun j H' => Same G6 H' ∧ H' D = some (.lst ((nbs g (1 + s) j).map iV))) ⟨same_new hD, upd_same⟩ ?_ ?_
      · rintro j H1 hj ⟨sm, hD1⟩
        have e2 : ((1 : Int) + (s : Int)) / 2 ^ ((0 : Int) + (j : Int)).toNat = (((1 + s) / 2 ^ j : Nat) : Int) := by
          rw [Int.zero_add, Int.toNat_natCast]
          push_cast
          rfl
        have nl : (nbs g (1 + s) j).length ≤ j := by
          unfold nbs
          rw [List.length_map]
          have := List.length_filter_le (fun i => decide ((1 + s) / 2 ^ i % 2 = 1)) (List.range j)
          rw [List.length_range] at this
          exact this
        refine ⟨rfl, _, rfl, _, rfl, _, _, rfl, rfl, by omega, (1 + s) / 2 ^ j, congrArg V.int e2, rfl, rfl, _, rfl, ?_⟩
        by_cases z : (1 + s) / 2 ^ j % 2 = 1
        · refine iteD1 (vint.mpr (by omega)) ?_
          refine ⟨_, rfl, _, rfl, _, _, rfl, rfl, _, hD1, (by rw [List.length_map]; exact szl (by omega)), Same.mut sm hD, ?_⟩
          rw [upd_same, nbs_more, if_pos z, List.map_append]
          congr 3
          show [V.int ((g : Int) + (0 + (j : Int)))] = [V.int ((g + j : Nat) : Int)]
          rw [Int.zero_add]
          rfl
        · refine iteD0 (fun y => z (by have := vint.mp y; omega)) ?_
          refine ⟨sm, ?_⟩
          rw [nbs_more, if_neg z, List.append_nil]
          exact hD1
      · rintro H1 ⟨sm, hD1⟩
        have C4 := more _ _ _ _ _ _ C3 fD (bx56.same sm) hD1 (fun x hx => by have := nbs_mem hx; omega) (xs_near (by omega) (by omega) (by omega))
        refine ⟨F, _, _, rfl, rfl, sm _ _ hF6, szl (by rw [List.length_append, List.length_append, List.length_append]; show _ + 1 + 1 + 1 < _; omega), ?_⟩
        exact ⟨_, _, _, _, _, _, rfl, by rw [List.length_append, List.length_append, List.length_append, List.length_append]; show _ + 1 + 1 + 1 + 1 = _; omega, C4⟩
    · rintro σ G0 ⟨vs, y3, y4, y5, y6, y7, rfl, lv, C0⟩
      refine ⟨_, rfl, _, _, rfl, rfl, _, rfl, ite2 (fun e => ?_) (fun e => ?_)⟩
      · have n36 : n ≤ 36 := by
          have := of_decide_eq_true e
          omega
        refine ⟨_, rfl, _, rfl, by omega, by omega, ?_⟩
        rw [show ((n : Int)).toNat = n by omega]
        refine for_range (lo := 0) (n := n) (fun i σ H' => ∃ (F : Addr) (vs : List V) (y3 y4 y5 y6 y7 : Option V), σ = [some (.ref b), some (.int (n : Int)), some (.ref F), y3, y4, y5, y6, y7] ∧ vs.length ≤ 12 + 40 * i ∧ Chs n b F H H' vs) ⟨F, vs, _, _, _, _, _, rfl, by omega, C0⟩ ?_ ?_
        · rintro i σ G1 hi ⟨F, vs, y3, y4, y5, y6, y7, rfl, lv, C1⟩
          have nFb : F ≠ b := hb.ne C1.2.1
          refine ⟨_, rfl, .inl ⟨rfl, _, SqL.of C1.2.2.1⟩, _, rfl, (by show 1 ≤ 100000; decide), fun a2 G2 na2 s2 ha2 => ?_⟩
          refine ⟨F, _, _, rfl, rfl, s2 _ _ C1.2.2.1, szl (by omega), ?_⟩
          have C2 := more _ _ _ _ _ [i] C1 na2 ((Bx4.refl C1.1.1).same s2) (by rw [ha2, Int.zero_add]; rfl) (fun x hx => by rw [List.mem_singleton.mp hx]; exact hi) (xs_one n i)
          generalize hG3 : upd G2 F (.lst (vs ++ [.ref a2])) = G3 at C2
          refine ⟨_, rfl, _, rfl, _, rfl, by omega, by omega, fun D hD => ?_⟩
          rw [show ((0 : Int) + (i : Int)).toNat = i by omega]
          have nDb : D ≠ b := C2.1.1.ne hD
          refine lc_range (lo := 0) (n := i) (fun j H' => ∃ ws : List V, Same G3 H' ∧ H' D = some (.lst ws) ∧ ws.length = j ∧ ∀ v ∈ ws, Chg n b D H' v) ⟨[], same_new hD, upd_same, rfl, fun v h => by cases h⟩ ?_ ?_
          · rintro j H1 hj ⟨ws, sm, hD1, lw, cw⟩
            refine ⟨rfl, _, rfl, _, rfl, (by show 2 ≤ 100000; decide), fun a3 G4 na3 s4 ha3 => ?_⟩
            have naD : a3 ≠ D := (ne_of_none hD1 na3).symm
            have nab : a3 ≠ b := by
              have : Bag4 H1 b := ((Bx4.refl C2.1.1).same sm).1
              exact this.ne na3
            refine ⟨_, s4 _ _ hD1, szl (by omega), ws ++ [.ref a3], Same.mut (sm.trans s4) hD, upd_same, by rw [List.length_append, lw]; rfl, fun v hv => ?_⟩
            rcases List.mem_append.mp hv with h | h
            · exact ((cw v h).same s4).upd
            · rw [List.mem_singleton.mp h]
              refine ⟨a3, [i, j], rfl, nab, naD, ?_, ?_, xs_two hi (by omega) n11 (by omega)⟩
              · rw [upd_ne naD, ha3, Int.zero_add, Int.zero_add]
                rfl
              · intro x hx
                rcases List.mem_cons.mp hx with rfl | hx
                · exact hi
                · rw [List.mem_singleton.mp hx]
                  omega
          · rintro H1 ⟨ws, sm, hD1, lw, cw⟩
            have hF1 := sm _ _ C2.2.2.1
            refine ⟨_, _, _, _, rfl, rfl, hF1, hD1, (by rw [List.length_append]; show _ + 1 + _ ≤ _; omega), fun p G5 np s5 hp => ?_⟩
            have bx5 : Bx4 b H G5 := (C2.1.same sm).same s5
            refine ⟨p, _, _, _, _, _, _, rfl, ?_, bx5, (C2.1.same sm).free np, hp, fun v hv => ?_⟩
            · rw [List.length_append, List.length_append]
              show _ + 1 + _ ≤ _
              omega
            · rcases List.mem_append.mp hv with h | h
              · exact (((C2.2.2.2 v h).same sm).to np).same s5
              · exact ((cw v h).to np).same s5
        · rintro σ G1 ⟨F, vs, y3, y4, y5, y6, y7, rfl, lv, C1⟩
          exact ⟨_, rfl, q _ _ _ C1⟩
      · exact ⟨_, rfl, q _ _ _ C0⟩
--SPLIT
def spLaw (K : PySem.W.Frag) : Sp := fun vs H Q _ => ∃ (a : Addr) (ns : List Int), vs = [.ref a] ∧ SqL K H a (ns.map V.int) ∧ ns.length ≤ 63 ∧ ∀ H', Q (.bl true) H'
theorem many_at {j : Int} (h0 : 0 ≤ j) (h1 : j < 4) : ∃ m : Nat, atI [V.int 1001, .int 200, .int 21, .int 4] j = some (.int (m : Int)) ∧ 4 ≤ m ∧ m ≤ 1001 := by
  have : j = 0 ∨ j = 1 ∨ j = 2 ∨ j = 3 := by omega
  rcases this with rfl | rfl | rfl | rfl
  · exact ⟨1001, rfl, by decide, by decide⟩
  · exact ⟨200, rfl, by decide, by decide⟩
  · exact ⟨21, rfl, by decide, by decide⟩
  · exact ⟨4, rfl, by decide, by decide⟩
theorem ok_law {A : Ad} (T : Txt w K mg base A) : FnOk P w K mg base CX0 5 A.a_law A.d_law P_law (spLaw K) := by
  have G_bag := ok_bag (P := P) (w := w) (base := base) T
  have G_sealed := ok_sealed (P := P) (w := w) (base := base) T
  have G_changes := ok_changes (P := P) (w := w) (base := base) T
  have G_any_bits := ok_any_bits (P := P) (w := w) (base := base) T
  have G_is_sealed := ok_is_sealed (P := P) (w := w) (base := base) T
  have G_take := ok_take (P := P) (w := w) (base := base) T
  have G_lturned := ok_lturned (P := P) (w := w) (base := base) T
  refine T.F_law.ok sc_law (fun vs H Q E h => ?_) (fun cdv Ar outer s H vs Q E hr h => ?_)
  · obtain ⟨a, ns, rfl, _⟩ := h
    rfl
  · obtain ⟨a, ns, rfl, hS, ln, q⟩ := h
    refine ⟨_, (pss_cons (ps_for PassesOwn.never rfl (pi_range1 (by rfl) T.z_range (pa_cons (pe_callB (call_max2 rfl) (by rfl) T.z_max (by decide +kernel) (pa_cons pe_int (pa_cons (pe_callB (call_min2 rfl) (by rfl) T.z_min (by decide +kernel) (pa_cons pe_int (pa_cons (pe_callB (r := fun xs H Q => ∃ p ys, xs = [.ref p] ∧ (SqL K H p ys ∨ SqT K H p ys) ∧ Q (.int ys.length) H) call_len_seq (by rfl) T.z_len PySem.boot_len (pa_cons (pv 0) pa_nil)) pa_nil))) pa_nil))) pa_nil)) (pg_name (i := 1) sc_law.nd rfl (Or.inl rfl))
      (pss_cons (ps_set (i := 2) sc_law.nd rfl (Or.inl rfl) (pe_call G_bag (hr.mono (by decide)) (by rfl) T.g_bag T.F_bag.kp T.b_bag .nil pass0 (pa_cons (pv 0) (pa_cons (pv 1) pa_nil))))
      (pss_cons (ps_set (i := 3) sc_law.nd rfl (Or.inl rfl) (pe_call G_sealed (hr.mono (by decide)) (by rfl) T.g_sealed T.F_sealed.kp T.b_sealed .nil pass0 (pa_cons (pe_call G_any_bits (hr.mono (by decide)) (by rfl) T.g_any_bits T.F_any_bits.kp T.b_any_bits .nil pass0 (pa_cons (pv 2) (pa_cons (pe_call G_take (hr.mono (by decide)) (by rfl) T.g_take T.F_take.kp T.b_take .nil pass0 (pa_cons (pv 2) (pa_cons (pe_ix (r := rIxL K) ix_list (pe_lstW (pa_cons pe_int (pa_cons pe_int (pa_cons pe_int (pa_cons pe_int pa_nil))))) (pe_call G_take (hr.mono (by decide)) (by rfl) T.g_take T.F_take.kp T.b_take .nil pass0 (pa_cons (pv 2) (pa_cons pe_int pa_nil))) (fun _ _ => rfl)) pa_nil))) pa_nil))) pa_nil)))
      (pss_cons (ps_set (i := 4) sc_law.nd rfl (Or.inl rfl) (pe_callB call_len_str (by rfl) T.z_len PySem.boot_len (pa_cons (pv 3) pa_nil)))
      (pss_cons (ps_if (pt_cmpR op_isnot_bl (pe_call G_is_sealed (hr.mono (by decide)) (by rfl) T.g_is_sealed T.F_is_sealed.kp T.b_is_sealed .nil pass0 (pa_cons (pv 3) pa_nil)) pe_bl (nomark _))
      (pss_one (ps_ret pe_bl)) pss_nil)
      (pss_cons (ps_for PassesOwn.never rfl (pi_list (pe_call G_changes (hr.mono (by decide)) (by rfl) T.g_changes T.F_changes.kp T.b_changes .nil pass0 (pa_cons (pv 2) (pa_cons (pv 4) pa_nil)))) (pg_name (i := 5) sc_law.nd rfl (Or.inl rfl))
      (pss_one (ps_if (pt_cmpR op_isnot_bl (pe_call G_is_sealed (hr.mono (by decide)) (by rfl) T.g_is_sealed T.F_is_sealed.kp T.b_is_sealed .nil pass0 (pa_cons (pe_call G_lturned (hr.mono (by decide)) (by rfl) T.g_lturned T.F_lturned.kp T.b_lturned .nil pass0 (pa_cons (pv 3) (pa_cons (pv 5) pa_nil))) pa_nil)) pe_bl (nomark _))
      (pss_one (ps_ret pe_bl)) pss_nil)))
      (pss_cons (ps_for PassesOwn.never rfl (pi_range1 (by rfl) T.z_range (pa_cons (pe_callTy call_int1 (by rfl) T.z_int (by decide +kernel) (pa_cons (pe_cmpR op_gt (pv 4) pe_int (nomark _)) pa_nil)) pa_nil)) (pg_name (i := 6) sc_law.nd rfl (Or.inl rfl))
      (pss_cons (ps_set (i := 7) sc_law.nd rfl (Or.inl rfl) (pe_call G_take (hr.mono (by decide)) (by rfl) T.g_take T.F_take.kp T.b_take .nil pass0 (pa_cons (pv 2) (pa_cons (pe_op op_sub (pv 4) pe_int) pa_nil))))
      (pss_one (ps_if (pt_cmpR op_isnot_bl (pe_call G_is_sealed (hr.mono (by decide)) (by rfl) T.g_is_sealed T.F_is_sealed.kp T.b_is_sealed .nil pass0 (pa_cons (pe_call G_lturned (hr.mono (by decide)) (by rfl) T.g_lturned T.F_lturned.kp T.b_lturned .nil pass0 (pa_cons (pv 3) (pa_cons (pe_lstW (pa_cons (pv 7) (pa_cons (pe_op op_add (pv 7) pe_int) (pa_cons (pe_op op_add (pv 7) pe_int) (pa_cons (pe_op op_add (pv 7) pe_int) pa_nil))))) pa_nil))) pa_nil)) pe_bl (nomark _))
      (pss_one (ps_ret pe_bl)) pss_nil))))
      (pss_one (ps_if (pt_cmpR op_isnot_bl (pe_call G_is_sealed (hr.mono (by decide)) (by rfl) T.g_is_sealed T.F_is_sealed.kp T.b_is_sealed .nil pass0 (pa_cons (pv 3) pa_nil)) pe_bl (nomark _))
      (pss_one (ps_ret pe_bl)) pss_nil)))))))))
      (pss_one (ps_ret pe_bl))), ?_⟩
    refine ⟨_, rfl, _, _, rfl, .inl hS, _, _, rfl, _, _, rfl, _, rfl, ?_, ?_, for_range (fun i σ H' => ∃ y1 y2 y3 y4 y5 y6 y7, σ = [some (.ref a), y1, y2, y3, y4, y5, y6, y7] ∧ Same H H') ⟨none, none, none, none, none, none, none, rfl, Same.refl H⟩ ?_ ?_⟩
    · rw [List.length_map]
      split <;> split <;> omega
    · rw [List.length_map]
      split <;> split <;> omega
    · rintro i σ H1 hi ⟨y1, y2, y3, y4, y5, y6, y7, rfl, sm⟩
      have hi8 : i < 8 := by
        rw [List.length_map] at hi
        revert hi
        split <;> split <;> omega
      refine ⟨_, rfl, _, rfl, a, ns, _, rfl, sm.seq hS, by omega, by omega, fun b H2 nb s2 hb => ?_⟩
      refine ⟨_, rfl, _, rfl, (by show 4 ≤ 100000; decide), fun q1 G1 nq1 s1 hq1 => ⟨_, rfl, b, 4, rfl, ((Bx4.refl hb).same s1).1, by decide, by decide, fun j G2 j0 j1 bx2 => ?_⟩⟩
      obtain ⟨m, hm, m4, m1⟩ := many_at j0 j1
      have nq : q1 ≠ b := hb.ne nq1
      refine ⟨_, _, _, _, rfl, rfl, SqL.of (bx2.2 _ _ nq hq1), hm, b, m, rfl, bx2.1, by omega, by omega, fun d G3 d0 d1 bx3 => ?_⟩
      obtain ⟨d, rfl⟩ := Int.eq_ofNat_of_zero_le d0
      refine ⟨b, d, _, rfl, rfl, bx3.1, by omega, fun l G4 ll bl bx4 => ⟨l, rfl, bl, by omega, fun r G5 s5 lr br vr => ?_⟩⟩
      have B5 : Bx4 b H2 G5 := ((((Bx4.refl hb).same s1).trans bx2).trans (bx3.trans bx4)).same s5
      have vW := sealed_val lr vr
      have bW : Bts (l ++ r) := bl.app br
      have lW : (l ++ r).length = d + 16 := by rw [List.length_append, ll, lr]
      generalize hW : l ++ r = W at *
      have hz : (sOf W).length ≤ sizeLine := by
        rw [sOf_len]
        exact sz (by omega)
      have good : ∀ Z : List Nat, Z.length = d + 16 → vlG Z = 0 → decide (decide (16 ≤ Z.length ∧ vlG Z = 0) = true) = true := fun Z h1 h2 => by
        rw [decide_eq_true (p := 16 ≤ Z.length ∧ vlG Z = 0) ⟨by omega, h2⟩]
        rfl
      refine ⟨_, rfl, _, rfl, hz, ?_⟩
      refine ⟨_, rfl, W, rfl, bW, by omega, fun G6 s6 => ⟨_, _, rfl, rfl, _, rfl, iteN0 (of_decide_eq_true (good W lW vW)) ?_⟩⟩
      have B6 := B5.same s6
      refine ⟨_, rfl, _, rfl, b, d + 16, _, rfl, (by rw [sOf_len, lW]), B6.1, by omega, by omega, fun p vs G7 C => ?_⟩
      have B7 := B6.trans C.1
      refine ⟨p, rfl, ⟨_, SqL.of C.2.2.1⟩, for_list (K := K) (a := p) (xs := vs) (fun j σ H' => ∃ y5 : Option V, σ = [some (.ref a), _, some (.ref b), some (.str (sOf W)), some (.int ((sOf W).length : Int)), y5, y6, y7] ∧ Same G7 H') ⟨y5, rfl, Same.refl _⟩ (fun j σ H' _ ⟨_, _, s⟩ => SqL.of (s _ _ C.2.2.1)) ?_ ?_⟩
      · rintro k x σ I1 hx ⟨y5, rfl, t1⟩
        obtain ⟨a', ps, rfl, _, _, ha, lt, ne⟩ := C.2.2.2 x (List.mem_of_getElem? hx)
        refine ⟨_, rfl, _, rfl, W, a', ps, rfl, t1 _ _ ha, bW, by omega, (fun p hp => by rw [lW]; exact lt p hp), fun Ga sa => ⟨flips W ps, rfl, flips_bt ps bW, by rw [flips_len]; omega, fun Gb sb => ⟨_, _, rfl, rfl, _, rfl, iteN0 ?_ ?_⟩⟩⟩
        · refine decide_eq_false (fun z => ?_)
          have := z.2
          rw [vlG_flips ps bW (fun p hp => by rw [lW]; exact lt p hp), vW, Nat.zero_xor, lW] at this
          exact ne this
        · exact ⟨_, rfl, (t1.trans sa).trans sb⟩
      · rintro σ I1 ⟨y5, rfl, t1⟩
        have B8 := B7.same t1
        refine ⟨_, rfl, _, _, rfl, rfl, .inr ⟨_, rfl, _, rfl, ?_⟩⟩
        obtain ⟨k, ek, k1, kd⟩ : ∃ k : Nat, (if decide ((16 : Int) < ((sOf W).length : Int)) = true then (1 : Int) else 0) = (k : Int) ∧ k ≤ 1 ∧ (0 < k → 0 < d) := by
          rw [sOf_len, lW]
          by_cases z : 0 < d
          · rw [if_pos (decide_eq_true (by omega))]
            exact ⟨1, rfl, by omega, fun _ => z⟩
          · rw [if_neg (fun y => z (by have := of_decide_eq_true y; omega))]
            exact ⟨0, rfl, by omega, fun y => absurd y (by omega)⟩
        rw [ek, Int.toNat_natCast]
        refine ⟨by omega, by omega, for_range (lo := 0) (n := k) (fun j σ H' => ∃ y6 y7 : Option V, σ = [some (.ref a), _, some (.ref b), some (.str (sOf W)), some (.int ((sOf W).length : Int)), y5, y6, y7] ∧ Bx4 b H2 H') ⟨y6, y7, rfl, B8⟩ ?_ ?_⟩
        · rintro jj σ I2 hj ⟨y6, y7, rfl, B9⟩
          have d0' := kd (by omega)
          refine ⟨_, rfl, _, rfl, _, _, rfl, rfl, b, _, rfl, B9.1, by rw [sOf_len]; omega, by rw [sOf_len]; omega, fun g I3 g0 g1 bx9 => ?_⟩
          obtain ⟨g, rfl⟩ := Int.eq_ofNat_of_zero_le g0
          rw [sOf_len, lW] at g1
          have B10 := B9.trans bx9
          refine ⟨_, rfl, _, rfl, _, rfl, _, _, rfl, rfl, _, rfl, _, _, rfl, rfl, _, rfl, _, _, rfl, rfl, (by show 4 ≤ 100000; decide), fun q2 I4 nq2 s4 hq2 => ?_⟩
          have lt4 : ∀ p ∈ [g, g + 1, g + 14, g + 16], p < W.length := fun p hp => by
            rcases List.mem_cons.mp hp with rfl | hp
            · omega
            rcases List.mem_cons.mp hp with rfl | hp
            · omega
            rcases List.mem_cons.mp hp with rfl | hp
            · omega
            rcases List.mem_cons.mp hp with rfl | hp
            · omega
            · cases hp
          refine ⟨W, q2, [g, g + 1, g + 14, g + 16], rfl, hq2, bW, by omega, lt4, fun I5 s5 => ⟨flips W [g, g + 1, g + 14, g + 16], rfl, flips_bt _ bW, by rw [flips_len]; omega, fun I6 s6 => ⟨_, _, rfl, rfl, _, rfl, iteN0 (of_decide_eq_true (good _ (by rw [flips_len]; exact lW) ?_)) ?_⟩⟩⟩
          · rw [vlG_flips _ bW lt4, vW, Nat.zero_xor, xs_four (by omega)]
          · exact ⟨_, _, rfl, ((B10.same s4).same s5).same s6⟩
        · rintro σ I2 ⟨y6, y7, rfl, B9⟩
          refine ⟨_, rfl, W, rfl, bW, by omega, fun I3 s3 => ⟨_, _, rfl, rfl, _, rfl, iteN0 (of_decide_eq_true (good W lW vW)) ?_⟩⟩
          exact ⟨_, _, _, _, _, _, _, rfl, (sm.trans ((B9.back s2 nb).trans s3))⟩
    · rintro σ H1 ⟨y1, y2, y3, y4, y5, y6, y7, rfl, sm⟩
      exact q _
end
--SPLIT
theorem all_mk {l : PySem.W.OpenLaw} {w : World} {K : PySem.W.Frag} {h : Heap} {mg : Str → Option Value} {fa : Addr} (X : K.In h) (G : h.Ns mainGlobals mg) (hfa : mg "law" = some (.ref fa))
    {f0 f1 f2 f3 f4 f5 f6 f7 f8 f9 f10 f11 : Addr}
    {od0 an0 od1 an1 od2 an2 od3 an3 od4 an4 od5 an5 od6 an6 od7 an7 od8 an8 od9 an9 od10 an10 od11 an11 : Option Addr}
    {sl0 sl1 sl2 sl3 sl4 sl5 sl6 sl7 sl8 sl9 sl10 sl11 : Array (Option Value)}
    {oc0 kV0 dc0 pm0 ct0 cd0 oc1 kV1 dc1 pm1 ct1 cd1 oc2 kV2 dc2 pm2 ct2 cd2 oc3 kV3 dc3 pm3 ct3 cd3 oc4 kV4 dc4 pm4 ct4 cd4 oc5 kV5 dc5 pm5 ct5 cd5 oc6 kV6 dc6 pm6 ct6 cd6 oc7 kV7 dc7 pm7 ct7 cd7 oc8 kV8 dc8 pm8 ct8 cd8 oc9 kV9 dc9 pm9 ct9 cd9 oc10 kV10 dc10 pm10 ct10 cd10 oc11 kV11 dc11 pm11 ct11 cd11 : Value}
    {t_REST : Tok}
    {t_TURNS : Addr}
    (a0 : PySem.W.nsIn K mainGlobals "turned" = some (some (.ref f0))) (l0 : K.lookup f0 = some ⟨oc0, od0, .func (PySem.W.fnOf "turned" "turned" (defArgs s_turned) (defBody s_turned) (defScope s_turned) .none kV0 dc0 pm0 an0 cd0 ct0), sl0⟩) (c0 : PySem.W.codeIn K cd0 "turned" = true) (k0 : PySem.W.keepIn K (.ref f0) = true)
    (a1 : PySem.W.nsIn K mainGlobals "rest_of" = some (some (.ref f1))) (l1 : K.lookup f1 = some ⟨oc1, od1, .func (PySem.W.fnOf "rest_of" "rest_of" (defArgs s_rest_of) (defBody s_rest_of) (defScope s_rest_of) .none kV1 dc1 pm1 an1 cd1 ct1), sl1⟩) (c1 : PySem.W.codeIn K cd1 "rest_of" = true) (k1 : PySem.W.keepIn K (.ref f1) = true)
    (a2 : PySem.W.nsIn K mainGlobals "sealed" = some (some (.ref f2))) (l2 : K.lookup f2 = some ⟨oc2, od2, .func (PySem.W.fnOf "sealed" "sealed" (defArgs s_sealed) (defBody s_sealed) (defScope s_sealed) .none kV2 dc2 pm2 an2 cd2 ct2), sl2⟩) (c2 : PySem.W.codeIn K cd2 "sealed" = true) (k2 : PySem.W.keepIn K (.ref f2) = true)
    (a3 : PySem.W.nsIn K mainGlobals "is_sealed" = some (some (.ref f3))) (l3 : K.lookup f3 = some ⟨oc3, od3, .func (PySem.W.fnOf "is_sealed" "is_sealed" (defArgs s_is_sealed) (defBody s_is_sealed) (defScope s_is_sealed) .none kV3 dc3 pm3 an3 cd3 ct3), sl3⟩) (c3 : PySem.W.codeIn K cd3 "is_sealed" = true) (k3 : PySem.W.keepIn K (.ref f3) = true)
    (a4 : PySem.W.nsIn K mainGlobals "_law_bag" = some (some (.ref f4))) (l4 : K.lookup f4 = some ⟨oc4, od4, .func (PySem.W.fnOf "_law_bag" "_law_bag" (defArgs s_bag) (defBody s_bag) (defScope s_bag) .none kV4 dc4 pm4 an4 cd4 ct4), sl4⟩) (c4 : PySem.W.codeIn K cd4 "_law_bag" = true) (k4 : PySem.W.keepIn K (.ref f4) = true)
    (a5 : PySem.W.nsIn K mainGlobals "_law_take" = some (some (.ref f5))) (l5 : K.lookup f5 = some ⟨oc5, od5, .func (PySem.W.fnOf "_law_take" "_law_take" (defArgs s_take) (defBody s_take) (defScope s_take) .none kV5 dc5 pm5 an5 cd5 ct5), sl5⟩) (c5 : PySem.W.codeIn K cd5 "_law_take" = true) (k5 : PySem.W.keepIn K (.ref f5) = true)
    (a6 : PySem.W.nsIn K mainGlobals "_law_written" = some (some (.ref f6))) (l6 : K.lookup f6 = some ⟨oc6, od6, .func (PySem.W.fnOf "_law_written" "_law_written" (defArgs s_written) (defBody s_written) (defScope s_written) .none kV6 dc6 pm6 an6 cd6 ct6), sl6⟩) (c6 : PySem.W.codeIn K cd6 "_law_written" = true) (k6 : PySem.W.keepIn K (.ref f6) = true)
    (a7 : PySem.W.nsIn K mainGlobals "_law_any_bits" = some (some (.ref f7))) (l7 : K.lookup f7 = some ⟨oc7, od7, .func (PySem.W.fnOf "_law_any_bits" "_law_any_bits" (defArgs s_any_bits) (defBody s_any_bits) (defScope s_any_bits) .none kV7 dc7 pm7 an7 cd7 ct7), sl7⟩) (c7 : PySem.W.codeIn K cd7 "_law_any_bits" = true) (k7 : PySem.W.keepIn K (.ref f7) = true)
    (a8 : PySem.W.nsIn K mainGlobals "_law_places" = some (some (.ref f8))) (l8 : K.lookup f8 = some ⟨oc8, od8, .func (PySem.W.fnOf "_law_places" "_law_places" (defArgs s_places) (defBody s_places) (defScope s_places) .none kV8 dc8 pm8 an8 cd8 ct8), sl8⟩) (c8 : PySem.W.codeIn K cd8 "_law_places" = true) (k8 : PySem.W.keepIn K (.ref f8) = true)
    (a9 : PySem.W.nsIn K mainGlobals "_law_turned" = some (some (.ref f9))) (l9 : K.lookup f9 = some ⟨oc9, od9, .func (PySem.W.fnOf "_law_turned" "_law_turned" (defArgs s_lturned) (defBody s_lturned) (defScope s_lturned) .none kV9 dc9 pm9 an9 cd9 ct9), sl9⟩) (c9 : PySem.W.codeIn K cd9 "_law_turned" = true) (k9 : PySem.W.keepIn K (.ref f9) = true)
    (a10 : PySem.W.nsIn K mainGlobals "_law_changes" = some (some (.ref f10))) (l10 : K.lookup f10 = some ⟨oc10, od10, .func (PySem.W.fnOf "_law_changes" "_law_changes" (defArgs s_changes) (defBody s_changes) (defScope s_changes) .none kV10 dc10 pm10 an10 cd10 ct10), sl10⟩) (c10 : PySem.W.codeIn K cd10 "_law_changes" = true) (k10 : PySem.W.keepIn K (.ref f10) = true)
    (a11 : PySem.W.nsIn K mainGlobals "law" = some (some (.ref f11))) (l11 : K.lookup f11 = some ⟨oc11, od11, .func (PySem.W.fnOf "law" "law" (defArgs s_law) (defBody s_law) (defScope s_law) .none kV11 dc11 pm11 an11 cd11 ct11), sl11⟩) (c11 : PySem.W.codeIn K cd11 "law" = true) (k11 : PySem.W.keepIn K (.ref f11) = true)
    (z_abs : PySem.W.nsIn K mainGlobals "abs" = some none)
    (z_int : PySem.W.nsIn K mainGlobals "int" = some none)
    (z_len : PySem.W.nsIn K mainGlobals "len" = some none)
    (z_list : PySem.W.nsIn K mainGlobals "list" = some none)
    (z_max : PySem.W.nsIn K mainGlobals "max" = some none)
    (z_min : PySem.W.nsIn K mainGlobals "min" = some none)
    (z_range : PySem.W.nsIn K mainGlobals "range" = some none)
    (z_str : PySem.W.nsIn K mainGlobals "str" = some none)
    (m_REST : PySem.W.nsIn K mainGlobals "REST" = some (some (.int (16) t_REST)))
    (m_TURNS : PySem.W.nsIn K mainGlobals "TURNS" = some (some (.ref t_TURNS)))
    {us_TURNS : List Value} {un_TURNS : Nat} {ul_TURNS : Array (Option Value)}
    (dt_TURNS : K.lookup t_TURNS = some ⟨.type "tuple", none, .seq us_TURNS.toArray un_TURNS, ul_TURNS⟩) (dv_TURNS : Vals [.int 0, .int 1, .int 14, .int 16] us_TURNS)
    : ∃ fd : FuncData, (∀ (s : Shared) (v : Value), BindsTo s fd ⟨[v], []⟩ [("_law_script", v)]) ∧ ∀ base : Heap, K.In base → base.Ns mainGlobals mg → FnOk l.prog w K mg base CX0 5 fa fd ["_law_script"] (spLaw K) := by
  have e := hfa.symm.trans (PySem.W.mg_of X G a11)
  cases e
  have F0 := fun_mk (st := s_turned) l0 c0 k0
  have b0 := F0.binds (ps := P_turned) fun _ _ _ _ _ _ us hl => match us, hl with | [_], _ => rfl
  have F1 := fun_mk (st := s_rest_of) l1 c1 k1
  have b1 := F1.binds (ps := P_rest_of) fun _ _ _ _ _ _ us hl => match us, hl with | [_], _ => rfl
  have F2 := fun_mk (st := s_sealed) l2 c2 k2
  have b2 := F2.binds (ps := P_sealed) fun _ _ _ _ _ _ us hl => match us, hl with | [_], _ => rfl
  have F3 := fun_mk (st := s_is_sealed) l3 c3 k3
  have b3 := F3.binds (ps := P_is_sealed) fun _ _ _ _ _ _ us hl => match us, hl with | [_], _ => rfl
  have F4 := fun_mk (st := s_bag) l4 c4 k4
  have b4 := F4.binds (ps := P_bag) fun _ _ _ _ _ _ us hl => match us, hl with | [_, _], _ => rfl
  have F5 := fun_mk (st := s_take) l5 c5 k5
  have b5 := F5.binds (ps := P_take) fun _ _ _ _ _ _ us hl => match us, hl with | [_, _], _ => rfl
  have F6 := fun_mk (st := s_written) l6 c6 k6
  have b6 := F6.binds (ps := P_written) fun _ _ _ _ _ _ us hl => match us, hl with | [_, _], _ => rfl
  have F7 := fun_mk (st := s_any_bits) l7 c7 k7
  have b7 := F7.binds (ps := P_any_bits) fun _ _ _ _ _ _ us hl => match us, hl with | [_, _], _ => rfl
  have F8 := fun_mk (st := s_places) l8 c8 k8
  have b8 := F8.binds (ps := P_places) fun _ _ _ _ _ _ us hl => match us, hl with | [_, _, _], _ => rfl
  have F9 := fun_mk (st := s_lturned) l9 c9 k9
  have b9 := F9.binds (ps := P_lturned) fun _ _ _ _ _ _ us hl => match us, hl with | [_, _], _ => rfl
  have F10 := fun_mk (st := s_changes) l10 c10 k10
  have b10 := F10.binds (ps := P_changes) fun _ _ _ _ _ _ us hl => match us, hl with | [_, _], _ => rfl
  have F11 := fun_mk (st := s_law) l11 c11 k11
  exact ⟨_, fun s v => .of_eq rfl, fun base _ _ => ok_law (A := ⟨f0, _, f1, _, f2, _, f3, _, f4, _, f5, _, f6, _, f7, _, f8, _, f9, _, f10, _, fa, _, t_REST, t_TURNS⟩) ⟨F0, b0, PySem.W.mg_of X G a0, F1, b1, PySem.W.mg_of X G a1, F2, b2, PySem.W.mg_of X G a2, F3, b3, PySem.W.mg_of X G a3, F4, b4, PySem.W.mg_of X G a4, F5, b5, PySem.W.mg_of X G a5, F6, b6, PySem.W.mg_of X G a6, F7, b7, PySem.W.mg_of X G a7, F8, b8, PySem.W.mg_of X G a8, F9, b9, PySem.W.mg_of X G a9, F10, b10, PySem.W.mg_of X G a10, F11, PySem.W.mg_of X G a11, fun H => .inr ⟨_, us_TURNS.toArray, _, dt_TURNS, rfl, rfl, by rw [List.size_toArray, ← dv_TURNS.length]; exact sz (by show 4 ≤ 100000; decide), by simpa using dv_TURNS⟩, ⟨_, dt_TURNS, rfl, rfl⟩, PySem.W.mg_none_of X G z_abs, PySem.W.mg_none_of X G z_int, PySem.W.mg_none_of X G z_len, PySem.W.mg_none_of X G z_list, PySem.W.mg_none_of X G z_max, PySem.W.mg_none_of X G z_min, PySem.W.mg_none_of X G z_range, PySem.W.mg_none_of X G z_str, PySem.W.mg_of X G m_REST, PySem.W.mg_of X G m_TURNS⟩⟩
end K28
open PySem PySem.W PyProof.Rows
set_option maxHeartbeats 0 in
theorem PySem.Challenge.cw_farpage_k28_whole_changes_told_holds : PySem.Challenge.rw_farpage_k28_whole_changes_told.Holds := by
  w_on; o_law; k_head; (case hw => w_witness2)
  k_fill
  refine L2.walk_of (l := PySem.Challenge.rw_farpage_k28_whole_changes_told) (n := 63) (k := 5) (x := "_law_script") (CX := fun _ => L2.CX0) (sp := fun w => K28.spLaw _) rfl (by decide) rfl ⟨rfl, by decide, by decide⟩ (fun w h Y => PySem.W.kIn_of Y) ?F (fun _ _ a ns hl _ hS => ⟨a, ns, rfl, hS, hl, fun _ => rfl⟩) (fun _ _ _ _ _ h => h)
  case F =>
    intro w mg fa h KX G hmg
    refine' K28.all_mk KX G hmg ?a0 ?l0 ?c0 ?k0 ?a1 ?l1 ?c1 ?k1 ?a2 ?l2 ?c2 ?k2 ?a3 ?l3 ?c3 ?k3 ?a4 ?l4 ?c4 ?k4 ?a5 ?l5 ?c5 ?k5 ?a6 ?l6 ?c6 ?k6 ?a7 ?l7 ?c7 ?k7 ?a8 ?l8 ?c8 ?k8 ?a9 ?l9 ?c9 ?k9 ?a10 ?l10 ?c10 ?k10 ?a11 ?l11 ?c11 ?k11 ?z_abs ?z_int ?z_len ?z_list ?z_max ?z_min ?z_range ?z_str ?m_REST ?m_TURNS ?dt_TURNS ?dv_TURNS
    (case a0 => k_is)
    (case l0 => k_is)
    (case c0 => k_is)
    (case k0 => k_is)
    (case a1 => k_is)
    (case l1 => k_is)
    (case c1 => k_is)
    (case k1 => k_is)
    (case a2 => k_is)
    (case l2 => k_is)
    (case c2 => k_is)
    (case k2 => k_is)
    (case a3 => k_is)
    (case l3 => k_is)
    (case c3 => k_is)
    (case k3 => k_is)
    (case a4 => k_is)
    (case l4 => k_is)
    (case c4 => k_is)
    (case k4 => k_is)
    (case a5 => k_is)
    (case l5 => k_is)
    (case c5 => k_is)
    (case k5 => k_is)
    (case a6 => k_is)
    (case l6 => k_is)
    (case c6 => k_is)
    (case k6 => k_is)
    (case a7 => k_is)
    (case l7 => k_is)
    (case c7 => k_is)
    (case k7 => k_is)
    (case a8 => k_is)
    (case l8 => k_is)
    (case c8 => k_is)
    (case k8 => k_is)
    (case a9 => k_is)
    (case l9 => k_is)
    (case c9 => k_is)
    (case k9 => k_is)
    (case a10 => k_is)
    (case l10 => k_is)
    (case c10 => k_is)
    (case k10 => k_is)
    (case a11 => k_is)
    (case l11 => k_is)
    (case c11 => k_is)
    (case k11 => k_is)
    (case z_abs => k_is)
    (case z_int => k_is)
    (case z_len => k_is)
    (case z_list => k_is)
    (case z_max => k_is)
    (case z_min => k_is)
    (case z_range => k_is)
    (case z_str => k_is)
    (case m_REST => k_is)
    (case m_TURNS => k_is)
    (case dt_TURNS => k_is)
    (case dv_TURNS => repeat (first | exact .nil | refine .cons ⟨_, rfl⟩ ?_ | refine .cons rfl ?_))
