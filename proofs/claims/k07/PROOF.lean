import PyProof.Rows.All
import Wide.All
import OpenK.AllK
import Wide.FinOn
import HandS.ForMost
import HandS.IsInst
import HandS.StrMore
import HandS.Codes
import HandS.Evl
import HandS.TupAny
import HandS.TupMul
import HandS.Walk
import PyProof.Rows.StrJoinRep
import HandS.Lambda
import HandS.EndTab
import HandS.Conv
import KE.SortKeyHeap
import HandS.More
import PySem.Challenge.RW_farpage_k07_run_bits
set_option Elab.async false
set_option linter.all false
set_option maxRecDepth 100000
set_option maxHeartbeats 4000000
/-! Rules of our own over the hand layer: a sign times an int, list(text), ljust with a sign. -/
namespace Fp
open PySem L2 PyProof.Rows
/-- a text by its codes -/
def sOf (l : List Nat) : Str := ⟨l.toArray⟩
theorem sOf_list (l : List Nat) : (sOf l).cps.toList = l := by simp [sOf]
theorem sOf_len (l : List Nat) : (sOf l).length = l.length := by simp [sOf, Str.length]
theorem of_list {z : Str} {l : List Nat} (h : z.cps.toList = l) : z = sOf l := str_of_list (by rw [h, sOf_list])
theorem sOf_inj {l m : List Nat} (h : sOf l = sOf m) : l = m := by
  have := congrArg (fun z => z.cps.toList) h
  simpa [sOf] using this
theorem sOf_app (l m : List Nat) : sOf l ++ sOf m = sOf (l ++ m) := by
  apply of_list
  show ((sOf l) ++ (sOf m)).cps.toList = l ++ m
  rw [show ((sOf l) ++ (sOf m)).cps = (sOf l).cps ++ (sOf m).cps from rfl]
  simp [sOf]
section
variable {X : Cx}
theorem op_mul_str : OpR X (binaryOp .Mult) (fun x y H Q => ∃ c n, x = .str (sOf [c]) ∧ y = .int n ∧ (-100000 ≤ n ∧ n ≤ 100000) ∧ Q (.str (sOf (List.replicate n.toNat c))) H) := by
  intro pins s σ H x y v u Q I rx ry h
  obtain ⟨c, n, rfl, rfl, hz, q⟩ := h
  obtain ⟨t, rfl⟩ := rx
  obtain ⟨t', rfl⟩ := ry
  refine SB.mul (mulOk_of 1 100000 (by rw [sOf_len]; exact Nat.le_refl _) (by omega) (by omega) (by decide) (by decide)) fun t' k => ?_
  have e : Txt.mul (sOf [c]) n = sOf (List.replicate n.toNat c) := of_list (mul_one_list c n)
  rw [e]
  exact ⟨.str (sOf (List.replicate n.toNat c)), H, I.tok _, ⟨_, rfl⟩, q⟩
theorem padOk {i : Int} (h0 : 0 ≤ i) (h1 : i ≤ 100000) : PadOk i = true := padOk_of (by omega) (by omega)
theorem mt_ljustF : MtR X "str.ljust" (fun x xs H Q => ∃ (l : List Nat) (i : Int) (c : Nat), x = .str (sOf l) ∧ xs = [.int i, .str (sOf [c])] ∧ (0 ≤ i ∧ i ≤ 100000) ∧ Q (.str (sOf (l ++ List.replicate (i.toNat - l.length) c))) H) := by
  intro pins s σ H x xs v us Q I rx rs h
  obtain ⟨l, i, c, rfl, rfl, hz, q⟩ := h
  obtain ⟨t, rfl⟩ := rx
  obtain ⟨u, w', rfl, ⟨t', rfl⟩, ⟨t'', rfl⟩⟩ := vals2 rs
  refine ljust_fill (padOk hz.1 hz.2) (sOf_len _) fun t' k => ?_
  have e : Txt.ljustF (sOf l) i ((sOf [c]).cps.getD 0 0) = sOf (l ++ List.replicate (i.toNat - l.length) c) := of_list (by
    rw [ljustF_list, sOf_list, sOf_len]
    rfl)
  rw [e]
  exact ⟨.str (sOf (l ++ List.replicate (i.toNat - l.length) c)), H, I.tok _, ⟨_, rfl⟩, q⟩
theorem vals_signs {acc : List Value} {l : List Nat} (h1 : acc.length = l.length) (h2 : ∀ (j : Nat) v, acc[j]? = some v → ∃ c u, l[j]? = some c ∧ v = .str ⟨#[c]⟩ u) : Vals (l.map fun c => V.str (sOf [c])) acc := by
  induction l generalizing acc with
  | nil =>
    cases acc with
    | nil => exact .nil
    | cons a r => simp at h1
  | cons c r ih =>
    cases acc with
    | nil => simp at h1
    | cons a b =>
      obtain ⟨c', u, e, rfl⟩ := h2 0 a rfl
      have e2 : c' = c := by simpa using e.symm
      subst e2
      exact .cons ⟨u, rfl⟩ (ih (by simpa using h1) fun j v hj => h2 (j + 1) v hj)
theorem call_list_str (hc : X.calm = true) : CallR X (.type "list") (fun xs H Q => ∃ z : List Nat, xs = [.str (sOf z)] ∧ z.length ≤ 100000 ∧ ∀ l, H l = none → Q (.ref l) (upd H l (.lst (z.map fun c => V.str (sOf [c]))))) := by
  intro pins s σ H xs us Q I r h
  obtain ⟨z, rfl, hz, q⟩ := h
  obtain ⟨u, rfl, t, rfl⟩ := vals1 r
  have hl : z.length ≤ sizeLine := Nat.le_trans hz (by decide)
  refine PySem.call_list_str (I.ok.hd hc) (sOf z) t (hn := by show (sOf z).length ≤ sizeLine; rw [sOf_len]; exact hl) fun h' tk acc' c' hk hS' hacc => ?_
  have r' : Vals (z.map fun c => V.str (sOf [c])) acc'.toList := vals_signs (by have := hacc.1; simpa [sOf] using this) fun j v hj => by
    obtain ⟨c, u, e, rfl⟩ := hacc.2 j v (by simpa using hj)
    exact ⟨c, u, by simpa [sOf] using e, rfl⟩
  exact ⟨.ref s.heap.objs.size, _, I.laid (t' := tk) hk (Nat.le_refl _) (show ObjOk X.prog X.w _ h' _ (.lst _) from ⟨by rw [List.length_map]; exact hl, acc'.toList, c', r', by simpa using hS'⟩), rfl, q _ (I.hok.fresh (Nat.le_refl _))⟩
end
/-! ### heaps -/
theorem same_new {H : Hp} {p : Addr} {o : HO} (h : H p = none) : Same H (upd H p o) := fun b x e => by
  rw [upd_ne (ne_of_none e h)]
  exact e
/-- what is new may change -/
theorem Same.mut {H H' : Hp} {p : Addr} {o : HO} (e : Same H H') (h : H p = none) : Same H (upd H' p o) := fun b x hb => by
  rw [upd_ne (ne_of_none hb h)]
  exact e b x hb
/-- a bag of the laws' draws -/
def BagAt (H : Hp) (b : Addr) : Prop := ∃ g s : Int, H b = some (.lst [.int g, .int s]) ∧ 0 ≤ g ∧ 0 ≤ s ∧ s < 1000000000000
/-- the bag has turned, what else stood stands -/
def Bx (b : Addr) (H H' : Hp) : Prop := BagAt H' b ∧ ∀ a o, a ≠ b → H a = some o → H' a = some o
theorem Bx.refl {b : Addr} {H : Hp} (h : BagAt H b) : Bx b H H := ⟨h, fun _ _ _ e => e⟩
theorem Bx.trans {b : Addr} {H H1 H2 : Hp} (x : Bx b H H1) (y : Bx b H1 H2) : Bx b H H2 := ⟨y.1, fun a o n e => y.2 a o n (x.2 a o n e)⟩
theorem Bx.drawn {b : Addr} {H : Hp} {g s : Int} (g0 : 0 ≤ g) (s0 : 0 ≤ s) (s1 : s < 1000000000000) : Bx b H (upd H b (.lst [.int g, .int s])) := ⟨⟨g, s, upd_same, g0, s0, s1⟩, fun a o n e => by
  rw [upd_ne n]
  exact e⟩
theorem Bx.same {b : Addr} {H H1 H2 : Hp} (x : Bx b H H1) (y : Same H1 H2) : Bx b H H2 := by
  obtain ⟨⟨g, s, h, r⟩, k⟩ := x
  exact ⟨⟨g, s, y _ _ h, r⟩, fun a o n e => y _ _ (k a o n e)⟩
/-- from before the bag was made -/
theorem Bx.back {b : Addr} {H0 H H' : Hp} (x : Bx b H H') (y : Same H0 H) (n : H0 b = none) : Same H0 H' := fun a o e => x.2 a o (ne_of_none e n) (y a o e)
theorem Bx.mut {b p : Addr} {H H' : Hp} {o : HO} (x : Bx b H H') (hp : H p = none) (n : p ≠ b) : Bx b H (upd H' p o) := by
  obtain ⟨⟨g, s, h, r⟩, k⟩ := x
  refine ⟨⟨g, s, by rw [upd_ne n.symm]; exact h, r⟩, fun a u m e => ?_⟩
  rw [upd_ne (ne_of_none e hp)]
  exact k a u m e
theorem Bx.free {b p : Addr} {H H' : Hp} (x : Bx b H H') (h : H' p = none) : H p = none := by
  have n : p ≠ b := by
    obtain ⟨g, s, e, _⟩ := x.1
    exact (ne_of_none e h).symm
  cases q : H p with
  | none => rfl
  | some o =>
    rw [x.2 p o n q] at h
    cases h
theorem BagAt.new {H : Hp} {p : Addr} {g s : Int} (g0 : 0 ≤ g) (s0 : 0 ≤ s) (s1 : s < 1000000000000) : BagAt (upd H p (.lst [.int g, .int s])) p := ⟨g, s, upd_same, g0, s0, s1⟩
theorem BagAt.ne {H : Hp} {b p : Addr} (h : BagAt H b) (n : H p = none) : p ≠ b := by
  obtain ⟨g, s, e, _⟩ := h
  exact (ne_of_none e n).symm
/-- a list's own address is no bag's where its items are texts -/
def cells (l : List Nat) : List V := l.map fun c => V.str (sOf [c])
theorem cells_len (l : List Nat) : (cells l).length = l.length := List.length_map ..
theorem cells_set (l : List Nat) (j c : Nat) : (cells l).set j (.str (sOf [c])) = cells (l.set j c) := by
  unfold cells
  rw [List.map_set]
theorem cells_app (l : List Nat) (c : Nat) : cells l ++ [.str (sOf [c])] = cells (l ++ [c]) := by
  unfold cells
  rw [List.map_append]
  rfl
/-- the cells of rows -/
def Cell (c : Nat) : Prop := c = 46 ∨ c = 35
def Row (l : List Nat) : Prop := ∀ c ∈ l, Cell c
theorem Row.set {l : List Nat} {j c : Nat} (h : Row l) (hc : Cell c) : Row (l.set j c) := fun x hx => by
  rcases List.mem_or_eq_of_mem_set hx with e | e
  · exact h x e
  · rw [e]
    exact hc
theorem Row.app {l : List Nat} {c : Nat} (h : Row l) (hc : Cell c) : Row (l ++ [c]) := fun x hx => by
  rcases List.mem_append.mp hx with e | e
  · exact h x e
  · rw [List.mem_singleton.mp e]
    exact hc
theorem Row.rep {n c : Nat} (hc : Cell c) : Row (List.replicate n c) := fun x hx => by
  rw [(List.mem_replicate.mp hx).2]
  exact hc
theorem Row.nil : Row [] := fun _ h => nomatch h
def cellN (i : Int) : Nat := if i = 0 then 46 else 35
theorem cellN_cell (i : Int) : Cell (cellN i) := by
  unfold cellN
  split
  · exact .inl rfl
  · exact .inr rfl
theorem cell_at {i : Int} (h0 : 0 ≤ i) (h1 : i < 2) : atI (Str.ofString ".#").cps.toList i = some (cellN i) := by
  have : i = 0 ∨ i = 1 := by omega
  rcases this with rfl | rfl <;> rfl
theorem two_len : (Str.ofString ".#").length ≤ sizeLine := by decide
theorem sz {n : Nat} (h : n ≤ 100000) : n ≤ sizeLine := Nat.le_trans h (by decide)
theorem szl {n : Nat} (h : n < 100000) : n < sizeLine := Nat.lt_of_lt_of_le h (by decide)
theorem sIx_nat' (n d a : Nat) : HT.sIx n d (some (a : Int)) = min a n := HT.sIx_nat n d a
theorem cutS_nat (l : List Nat) (a b : Nat) (ha : a ≤ l.length) (hb : b ≤ l.length) : cutS (sOf l) (some (a : Int)) (some (b : Int)) = sOf ((l.drop a).take (b - a)) := by
  unfold cutS
  rw [HT.sIx_nat, HT.sIx_nat, sOf_len, sOf_list, Nat.min_eq_left ha, Nat.min_eq_left hb]
  rfl
theorem take_more {α : Type} (l : List α) (i : Nat) (x : α) (h : l[i]? = some x) : l.take (i + 1) = l.take i ++ [x] := by
  rw [List.take_add_one, h]
  rfl
theorem range_more {α : Type} (f : Nat → α) (i : Nat) : (List.range (i + 1)).map f = (List.range i).map f ++ [f i] := by
  rw [List.range_succ, List.map_append]
  rfl
theorem join_cells : ∀ l : List Nat, Txt.join (Str.ofString "") (l.map fun c => sOf [c]) = sOf l := by
  intro l
  show Builtin.Str.glued (Str.ofString "") (l.map fun c => sOf [c]) = sOf l
  rw [StrLaws.glued_eq_join]
  induction l with
  | nil => rfl
  | cons c r ih =>
    cases r with
    | nil => rfl
    | cons d r =>
      show sOf [c] ++ Str.ofString "" ++ Str.join (Str.ofString "") (List.map (fun c => sOf [c]) (d :: r)) = sOf (c :: d :: r)
      rw [ih, show (Str.ofString "") = sOf [] from rfl, sOf_app, sOf_app]
      rfl
theorem cells_strs (l : List Nat) : cells l = (l.map fun c => sOf [c]).map V.str := by
  rw [List.map_map]
  rfl
theorem ones_sum (l : List Nat) : ((l.map fun c => sOf [c]).map (·.length)).sum = l.length := by
  induction l with
  | nil => rfl
  | cons c r ih =>
    rw [List.map_cons, List.map_cons, List.sum_cons, ih, sOf_len, List.length_cons]
    show 1 + r.length = r.length + 1
    omega
theorem join_size {l : List Nat} (h : l.length ≤ 100000) : ((l.map fun c => sOf [c]).map (·.length)).sum + (l.map fun c => sOf [c]).length * (Str.ofString "").length ≤ 16777216 := by
  rw [ones_sum, show (Str.ofString "").length = 0 from rfl]
  omega
theorem rep_one (n : Nat) (c : Nat) : (List.replicate n [V.str (sOf [c])]).flatten = cells (List.replicate n c) := by
  induction n with
  | zero => rfl
  | succ k ih =>
    rw [List.replicate_succ, List.flatten_cons, ih, List.replicate_succ]
    rfl

/-! ### lists and tuples of texts -/
def sV (l : List Nat) : V := .str (sOf l)
def sD (l : List Nat) : PyData := .str (sOf l)
theorem dp_rows {K : PySem.W.Frag} {H : Hp} : ∀ rows : List (List Nat), DpAll K H (rows.map sV) (rows.map sD)
  | [] => .nil
  | r :: rs => .cons (.str _) (dp_rows rs)
def Codes (l : List Nat) : Prop := ∀ c ∈ l, c < 128
theorem strOk_of {l : List Nat} (h : Codes l) : PyData.strOk (sOf l) = true := by
  unfold PyData.strOk sOf
  rw [Array.all_eq_true']
  intro c hc
  have h2 := h c (by simpa using hc)
  exact decide_eq_true (by omega)
theorem lay_rows : ∀ {rows : List (List Nat)}, (∀ r ∈ rows, Codes r) → PyData.canLayAll0 (rows.map sD) = true
  | [], _ => by simp [PyData.canLayAll0]
  | r :: rs, h => by
    have h1 : PyData.canLay0 (sD r) = true := by
      show PyData.canLay0 (.str (sOf r)) = true
      simp only [PyData.canLay0]
      exact strOk_of (h r (List.mem_cons_self ..))
    have h2 := lay_rows (rows := rs) fun x hx => h x (List.mem_cons_of_mem _ hx)
    simp only [List.map_cons, PyData.canLayAll0, h1, h2, Bool.and_true]
theorem depth_rows : ∀ rows : List (List Nat), PyData.depthAll (rows.map sD) = 0
  | [] => by simp [PyData.depthAll]
  | r :: rs => by
    have h := depth_rows rs
    simp only [List.map_cons, PyData.depthAll, h, sD, PyData.depth]
    rfl
theorem shaped_tup {rows : List (List Nat)} (h : ∀ r ∈ rows, Codes r) : SeqAt.shaped (.tuple (rows.map sD)) = true := by
  show (PyData.canLay0 (.tuple (rows.map sD)) && decide (PyData.depth (.tuple (rows.map sD)) ≤ 64)) = true
  rw [Bool.and_eq_true]
  refine ⟨by simp only [PyData.canLay0]; exact lay_rows h, decide_eq_true ?_⟩
  simp only [PyData.depth, depth_rows]
  omega
theorem shaped_lst {rows : List (List Nat)} (h : ∀ r ∈ rows, Codes r) : SeqAt.shaped (.list (rows.map sD)) = true := by
  show (PyData.canLay0 (.list (rows.map sD)) && decide (PyData.depth (.list (rows.map sD)) ≤ 64)) = true
  rw [Bool.and_eq_true]
  refine ⟨by simp only [PyData.canLay0]; exact lay_rows h, decide_eq_true ?_⟩
  simp only [PyData.depth, depth_rows]
  omega
theorem eqv_tup {rows : List (List Nat)} (h : ∀ r ∈ rows, Codes r) : PyData.eqv (.tuple (rows.map sD)) (.tuple (rows.map sD)) = true := SeqAt.eqv_refl _ (by simp only [PyData.canLay0]; exact lay_rows h)
theorem eqv_lst {rows : List (List Nat)} (h : ∀ r ∈ rows, Codes r) : PyData.eqv (.list (rows.map sD)) (.list (rows.map sD)) = true := SeqAt.eqv_refl _ (by simp only [PyData.canLay0]; exact lay_rows h)
theorem Row.codes {l : List Nat} (h : Row l) : Codes l := fun c hc => by
  rcases h c hc with e | e <;> rw [e] <;> decide
theorem same_t {K : PySem.W.Frag} {H H' : Hp} {a : Addr} {xs : List V} (e : Same H H') (h : SqT K H a xs) : SqT K H' a xs := Evl.ex_t e h
theorem cut1 (xs : List V) : cutV xs (some 1) none = xs.drop 1 := by
  unfold cutV
  rw [show HT.sIx xs.length 0 (some 1) = min 1 xs.length from HT.sIx_nat xs.length 0 1, HT.sIx_none]
  cases xs with
  | nil => rfl
  | cons x r =>
    rw [show min 1 (x :: r).length = 1 by
      rw [List.length_cons]
      omega]
    show (List.take ((x :: r).length - 1) r) = r
    rw [List.length_cons, Nat.add_sub_cancel]
    exact List.take_length

/-! ### tuples of any kind, texts times an int -/
section
variable {X : Cx}
theorem cutV_whole {xs : List V} {lo hi : Option Int} (h : HT.sIx xs.length 0 lo = 0 ∧ HT.sIx xs.length xs.length hi = xs.length) : cutV xs lo hi = xs := by
  unfold cutV
  rw [h.1, h.2]
  show (xs.drop 0).take (xs.length - 0) = xs
  rw [List.drop_zero, Nat.sub_zero, List.take_length]
theorem sl_tupW : SlR X (fun x lo hi H Q => ∃ a xs, x = .ref a ∧ H a = some (.tup xs) ∧ ∀ q H', Same H H' → H' q = some (.tup (cutV xs lo hi)) → Q (.ref q) H') := by
  intro pins s σ H x v vl vu lo hi sl Q I rx hs pl pu h
  obtain ⟨a, xs, rfl, hx, q⟩ := h
  refine sl_tupA pins s σ H _ v vl vu lo hi sl Q I rx hs pl pu ⟨a, xs, rfl, .inl (.inl hx), fun e => ?_, fun e p hp => ?_⟩
  · exact q a H (Same.refl H) (by rw [cutV_whole e]; exact hx)
  · exact q p _ (same_new hp) upd_same
theorem op_catW : OpR X (binaryOp .Add) (fun x y H Q => ∃ a b xs ys, x = .ref a ∧ y = .ref b ∧ H a = some (.tup xs) ∧ H b = some (.tup ys) ∧ xs.length + ys.length ≤ 100000 ∧ ∀ q H', Same H H' → H' q = some (.tup (xs ++ ys)) → Q (.ref q) H') := by
  intro pins s σ H x y v u Q I rx ry h
  obtain ⟨a, b, xs, ys, rfl, rfl, ha, hb, hz, q⟩ := h
  refine op_catA pins s σ H _ _ v u Q I rx ry ⟨a, b, xs, ys, rfl, rfl, .inl (.inl ha), .inl (.inl hb), sz hz, fun e => ?_, fun _ e => ?_, fun _ _ p hp => ?_⟩
  · subst e
    exact q b H (Same.refl H) hb
  · subst e
    exact q a H (Same.refl H) (by rw [List.append_nil]; exact ha)
  · exact q p _ (same_new hp) upd_same
theorem op_mul_txt : OpR X (binaryOp .Mult) (fun x y H Q => ∃ (z : Str) (n : Int), x = .str z ∧ y = .int n ∧ (0 ≤ n ∧ n ≤ 1000 ∧ z.length ≤ 1000) ∧ ∀ m : Str, (m.length : Int) = (z.length : Int) * n → Q (.str m) H) := by
  intro pins s σ H x y v u Q I rx ry h
  obtain ⟨z, n, rfl, rfl, hz, q⟩ := h
  obtain ⟨t, rfl⟩ := rx
  obtain ⟨t', rfl⟩ := ry
  refine SB.mul (mulOk_of 1000 1000 hz.2.2 (by omega) (by omega) (by decide) (by decide)) fun t' k => ?_
  have e := len_mul z n
  rw [if_neg (by simp; omega)] at e
  exact ⟨.str (Txt.mul z n), H, I.tok _, ⟨_, rfl⟩, q _ e⟩
end
theorem cutV_mem {xs : List V} {lo hi : Option Int} {v : V} (h : v ∈ cutV xs lo hi) : v ∈ xs := by
  unfold cutV at h
  exact List.mem_of_mem_drop (List.mem_of_mem_take h)
theorem cutV_len (xs : List V) (lo hi : Option Int) : (cutV xs lo hi).length ≤ xs.length := by
  unfold cutV
  rw [List.length_take, List.length_drop]
  omega
/-! ### things of the laws -/
def Flat (v : V) : Prop := v = .non ∨ (∃ x, v = .bl x) ∨ (∃ i, v = .int i) ∨ ∃ z : Str, v = .str z ∧ z.length ≤ 100000
def It (b : Addr) (H : Hp) (v : V) : Prop := Flat v ∨ (∃ a xs, v = .ref a ∧ a ≠ b ∧ H a = some (.lst xs)) ∨ ∃ a xs, v = .ref a ∧ H a = some (.tup xs)
def Tg (b : Addr) (H : Hp) (v : V) : Prop := Flat v ∨ (∃ a xs, v = .ref a ∧ a ≠ b ∧ H a = some (.lst xs)) ∨ ∃ a xs, v = .ref a ∧ H a = some (.tup xs) ∧ xs.length ≤ 1000 ∧ ∀ u ∈ xs, It b H u
theorem BagAt.tup {H : Hp} {b a : Addr} {xs : List V} (h : BagAt H b) (e : H a = some (.tup xs)) : a ≠ b := fun z => by
  obtain ⟨g, s, e2, _⟩ := h
  rw [z, e2] at e
  cases e
theorem It.bx {b : Addr} {H H' : Hp} {v : V} (h : It b H v) (hb : BagAt H b) (x : Bx b H H') : It b H' v := by
  rcases h with h | ⟨a, xs, rfl, n, e⟩ | ⟨a, xs, rfl, e⟩
  · exact .inl h
  · exact .inr (.inl ⟨a, xs, rfl, n, x.2 _ _ n e⟩)
  · exact .inr (.inr ⟨a, xs, rfl, x.2 _ _ (hb.tup e) e⟩)
theorem Tg.bx {b : Addr} {H H' : Hp} {v : V} (h : Tg b H v) (hb : BagAt H b) (x : Bx b H H') : Tg b H' v := by
  rcases h with h | ⟨a, xs, rfl, n, e⟩ | ⟨a, xs, rfl, e, l, k⟩
  · exact .inl h
  · exact .inr (.inl ⟨a, xs, rfl, n, x.2 _ _ n e⟩)
  · exact .inr (.inr ⟨a, xs, rfl, x.2 _ _ (hb.tup e) e, l, fun u hu => (k u hu).bx hb x⟩)
theorem Tg.it {b : Addr} {H : Hp} {v : V} (h : Tg b H v) : It b H v := by
  rcases h with h | h | ⟨a, xs, rfl, e, l, k⟩
  · exact .inl h
  · exact .inr (.inl h)
  · exact .inr (.inr ⟨a, xs, rfl, e⟩)
theorem Tg.str {b : Addr} {H : Hp} {z : Str} (h : z.length ≤ 100000) : Tg b H (.str z) := .inl (.inr (.inr (.inr ⟨z, rfl, h⟩)))
theorem It.str {b : Addr} {H : Hp} {z : Str} (h : z.length ≤ 100000) : It b H (.str z) := .inl (.inr (.inr (.inr ⟨z, rfl, h⟩)))
theorem str_sOf (z : Str) : z = sOf z.cps.toList := of_list rfl

/-! ### rules whose new objects stand in an opaque heap -/
section
variable {X : Cx} {es : List Expr} {t : TA} {pos : Pos}
theorem pe_weaken {e : Expr} {te tf : TE} (h : PE X e te) (k : ∀ σ H Q, tf σ H Q → te σ H Q) : PE X e tf := ⟨fun pins s σ H Q I q => h.run pins s σ H Q I (k σ H Q q)⟩
def tLstW (t : TA) : TE := fun σ H Q => t σ H fun xs H1 => xs.length ≤ 100000 ∧ ∀ p H2, H1 p = none → Same H1 H2 → H2 p = some (.lst xs) → Q (.ref p) H2
def tTupW (t : TA) : TE := fun σ H Q => t σ H fun xs H1 => xs.length ≤ 100000 ∧ ∀ p H2, H1 p = none → Same H1 H2 → H2 p = some (.tup xs) → Q (.ref p) H2
end
def rNewW (H : Hp) (o : HO) (Q : VK) : Prop := ∀ p H2, H p = none → Same H H2 → H2 p = some o → Q (.ref p) H2
theorem rNewW.go {H : Hp} {o : HO} {Q : VK} (q : rNewW H o Q) : ∀ p, H p = none → Q (.ref p) (upd H p o) := fun p hp => q p _ hp (same_new hp) upd_same
section
variable {X : Cx}
theorem op_catLW : OpR X (binaryOp .Add) (fun x y H Q => ∃ a b xs ys, x = .ref a ∧ y = .ref b ∧ H a = some (.lst xs) ∧ H b = some (.lst ys) ∧ xs.length + ys.length ≤ 100000 ∧ rNewW H (.lst (xs ++ ys)) Q) := by
  intro pins s σ H x y v u Q I rx ry h
  obtain ⟨a, b, xs, ys, rfl, rfl, ha, hb, hz, q⟩ := h
  exact op_cat pins s σ H _ _ v u Q I rx ry ⟨a, b, xs, ys, rfl, rfl, ha, hb, sz hz, q.go⟩
theorem op_repTW : OpR X (binaryOp .Mult) (fun x y H Q => ∃ l k xs, x = .ref l ∧ y = .int k ∧ H l = some (.tup xs) ∧ xs ≠ [] ∧ 2 ≤ k ∧ k ≤ 1000 ∧ xs.length ≤ 1000 ∧ rNewW H (.tup (List.replicate k.toNat xs).flatten) Q) := by
  intro pins s σ H x y v u Q I rx ry h
  obtain ⟨l, k, xs, rfl, rfl, hl, h1, h2, h3, h4, q⟩ := h
  exact op_repT pins s σ H _ _ v u Q I rx ry ⟨l, k, xs, rfl, rfl, .inl (.inl hl), h1, h2, h3, h4, q.go⟩
theorem call_list_ofW : CallR X (.type "list") (fun xs H Q => ∃ p ys, xs = [.ref p] ∧ (H p = some (.lst ys) ∨ H p = some (.tup ys)) ∧ rNewW H (.lst ys) Q) := by
  intro pins s σ H xs us Q I r h
  obtain ⟨p, ys, rfl, hp, q⟩ := h
  exact call_list_of pins s σ H _ us Q I r ⟨p, ys, rfl, hp.elim (fun h => .inl (SqL.of h)) (fun h => .inr (.inl (.inl h))), q.go⟩
theorem call_list_strW (hc : X.calm = true) : CallR X (.type "list") (fun xs H Q => ∃ z : Str, xs = [.str z] ∧ z.length ≤ 100000 ∧ rNewW H (.lst (cells z.cps.toList)) Q) := by
  intro pins s σ H xs us Q I r h
  obtain ⟨z, rfl, hz, q⟩ := h
  refine call_list_str hc pins s σ H _ us Q I r ⟨z.cps.toList, by rw [← str_sOf], ?_, q.go⟩
  rw [Array.length_toList]
  exact hz
end
section
variable {X : Cx} {es : List Expr} {t : TA} {pos : Pos}
theorem pe_tupW {x1} (h : PA X es t) : PE X (.Tuple es x1 pos) (tTupW t) := by
  refine ⟨fun pins s σ H Q I hq => ?_⟩
  refine wpAny_Tuple_spliced (thn (h.run pos pins s σ H _ I hq) fun us s1 ⟨xs, H1, I1, r, z, q⟩ => ⟨by rw [← r.length]; exact sz z, ?_⟩)
  have hf : H1 s1.heap.objs.size = none := I1.hok.fresh (Nat.le_refl _)
  refine ⟨.ref s1.heap.objs.size, upd H1 s1.heap.objs.size (.tup xs), I1.laid (t' := s1.toks) (fun b u e => Heap.get?_push_of_some _ e) (Nat.le_refl _) ?_, rfl, q _ _ hf (same_new hf) upd_same⟩
  exact ⟨sz z, us, r, ⟨_, Heap.get?_push_size _ rfl, rfl, _, rfl⟩⟩
theorem pe_lstW (h : PA X es t) : PE X (.List es pos) (tLstW t) := by
  refine ⟨fun pins s σ H Q I hq => ?_⟩
  refine wpAny_List_spliced (thn (h.run pos pins s σ H _ I hq) fun us s1 ⟨xs, H1, I1, r, z, q⟩ => ⟨by rw [← r.length]; exact sz z, ?_⟩)
  have hf : H1 s1.heap.objs.size = none := I1.hok.fresh (Nat.le_refl _)
  refine ⟨.ref s1.heap.objs.size, upd H1 s1.heap.objs.size (.lst xs), I1.laid (t' := s1.toks) (fun b u e => Heap.get?_push_of_some _ e) (Nat.le_refl _) ?_, rfl, q _ _ hf (same_new hf) upd_same⟩
  exact ⟨sz z, us, 0, r, Heap.get?_push_size _ rfl⟩
end
end Fp

set_option Elab.async false
set_option linter.all false
set_option maxRecDepth 100000
set_option maxHeartbeats 4000000
/-! sorted(range(n), key=lambda i: xs[i]) over the hand layer. -/
namespace Fp
open PySem PySem.W PySem.Spec PyProof.Rows
section
variable {prog : Program} {w : World} {A : Around} {E : Value → Shared → Prop} {s : Shared}
/-- the key's call: (lambda i: xs[i])(i) -/
theorem key_turn {f c' a cL : Addr} {qual : Str} {params : Arguments} {scope : Scope} {clos : List (Str × Addr)} {pm ctv : Value} {xL xP : Str} {p1 p2 p3 : Pos} {h : Heap} {tk : Nat} {its : Array Value} {i : Int} {t : Tok} {x : Int} {tx : Tok}
    (hroom : A.depth < recursionLimit) (hf : h.get? f = some (kla_obj "<lambda>" qual params (.Subscript (.Name xL p1) (.Name xP p2) p3) scope clos pm c' ctv))
    (hkind : scope.kind = .function) (hco : scope.isCoroutine = false) (hgen : scope.isGenerator = false) (hcell : ∀ y ∈ scope.names, y.2 ≠ .cell) (hP : scope.names.lookup xP = some .local) (hL : scope.names.lookup xL = some .free)
    (hcl : clos.lookup xL = some cL) (hic : h.IsCell cL (some (.ref a))) (hcr : ∃ (oc : Obj) (vs : Array Value) (t : Tok), h.get? c' = some oc ∧ oc.data = .fields vs ∧ vs[1]? = some (.str qual t))
    (hbind : ∀ v, bindArgs (kla_fn "<lambda>" qual params (.Subscript (.Name xL p1) (.Name xP p2) p3) scope clos pm (.ref c') ctv) ⟨[v], []⟩ = pure [(xP, v)])
    (hlim : h.NoLimit) (hl : h.IsList a its) (h0 : 0 ≤ i) (hi : i < 2 ^ 63) (hx : its[i.toNat]? = some (.int x tx))
    (hd1 : (xL == ("__debug__" : Str)) = false) (hd2 : (xP == ("__debug__" : Str)) = false) (hd3 : (xL == ("__classdict__" : Str)) = false) :
    wpAny (model prog w) A (call (.ref f) [.int i t]) (KeyPure (.int x) { s with heap := h, toks := tk }) E { s with heap := h, toks := tk } := by
  obtain ⟨oc, vs, tq, hoc, hdc, hvc⟩ := hcr
  refine wpAny_call (kla_callFunE hroom hf rfl hco hgen rfl ⟨c', oc, vs, tq, rfl, hoc, hdc, hvc⟩ ?_)
  rw [hbind]
  refine wpAny_pure (wpAny_newFunctionEnv hcell (fun y hy => ?_) (fun h₁ hns hsb => ⟨hlim.fresh _ hsb, ?_⟩) hkind)
  · rw [List.mem_singleton.mp hy]
    exact hP
  have kp : ∀ b o, h.get? b = some o → h₁.get? b = some o := fun b o e => hsb.extBut b o (Nat.ne_of_lt (Heap.lt_size e)) (Heap.get?_push_of_some _ e)
  show codeAny _ _ (.expr (.Subscript (.Name xL p1) (.Name xP p2) p3) (envX qual scope h.objs.size f (.ref c') clos)) _ _
  refine kla_codeExpr ?_
  have hic1 : h₁.IsCell cL (some (.ref a)) := by
    obtain ⟨o, ho, hd⟩ := hic
    exact ⟨o, kp _ _ ho, hd⟩
  have hl1 : h₁.IsList a its := by
    obtain ⟨o, ho, r⟩ := hl
    exact ⟨o, kp _ _ ho, r⟩
  refine Subscript_ (wpAny_Name (wpAny_loadName_free hkind hL hcl hic1 (wpAny_Name (wpAny_loadName_local hkind hP hns (show ([(xP, Value.int i t)] : List (Str × Value)).reverse.lookup xP = some (Value.int i t) by simp [List.lookup]) ?_) hd2) hd3) hd1)
  refine item_listR hl1 h0 hi hx ?_ rfl
  exact ⟨h₁, _, rfl, kp, .int _ _⟩
theorem each_range {acc : List Value} {n : Nat} (h1 : acc.length = n) (h2 : ∀ (j : Nat) v, acc[j]? = some v → ∃ t, v = .int (0 + (j : Int) * 1) t) : EachIs (fun v (i : Nat) => ∃ t, v = .int (i : Int) t) acc (List.range n) := by
  refine EachIs.of_zip (by rw [h1, List.length_range]) fun p hp => ?_
  obtain ⟨j, hj⟩ := List.mem_iff_getElem?.mp hp
  rw [List.getElem?_zip_eq_some] at hj
  obtain ⟨t, e⟩ := h2 j p.1 hj.1
  have e2 : p.2 = j := by
    have hj2 := hj.2
    have hl : j < n := by
      have := (List.getElem?_eq_some_iff.mp hj2).1
      rw [List.length_range] at this
      exact this
    rw [List.getElem?_range hl] at hj2
    exact (Option.some.inj hj2).symm
  refine ⟨t, ?_⟩
  rw [e, e2]
  congr 1
  omega
theorem sorted_range_key {r : Addr} {b : Int} {t u v : Tok} {f : Addr} {n : Nat} {Q : Value → Shared → Prop} (k : Nat → Int) (hh : A.handled = none) (hr : IsRange s.heap r 0 b 1 t u v) (hn : b = n) (hlen : n ≤ 100000) (hu : A.units + 2 < cLine)
    (turn : ∀ (i : Nat) (tt : Tok), i < n → ∀ (h : Heap) (tk : Nat), (∀ b o, s.heap.get? b = some o → h.get? b = some o) →
      wpAny (model prog w) A.in1.in1 (call (.ref f) [.int (i : Int) tt]) (KeyPure (.int (k i)) { s with heap := h, toks := tk }) (fun _ _ => False) { s with heap := h, toks := tk })
    (fin : ∀ (out : List Value) (c : Nat) (g h' : Heap) (tk : Nat) (p : Addr), (∀ b o, s.heap.get? b = some o → g.get? b = some o) → (∀ b o, g.get? b = some o → h'.get? b = some o) → g.objs.size ≤ p → h'.get? p = some (seqObj "list" out.toArray c) → out.length = n →
      EachIs (fun v (i : Nat) => ∃ t, v = .int (i : Int) t) out ((List.range n).mergeSort (dataLe false fun i => .int (k i))) → Q (.ref p) { s with heap := h', toks := tk }) :
    wpAny (model prog w) A (call (.builtin "sorted") [.ref r] [(Str.ofString "key", .ref f)]) Q E s := by
  refine call_function_entry_kw kind_sorted plain_sorted entry_sorted (ksk_s1 _ _) ?_
  unfold Builtin.«sorted»
  refine wpAny_bind (m := checkCount "sorted" 1 1 _) (wpAny_pure ?_)
  refine wpAny_bind (L2.collect_range (n := n) (A := A.in1) hh hr (small_one (by omega) (by omega) (by omega) (by omega)) (by rw [rangeSize_one]; split <;> omega) (by omega) fun h1 tk1 acc hk hacc => ?_)
  have hal : acc.toList.length = n := by rw [Array.length_toList]; exact hacc.1
  have eR := each_range hal fun j v hj => hacc.2 j v (by simpa using hj)
  have hz : acc.toList.length ≤ sizeLine := by rw [hal]; exact Nat.le_trans hlen (by decide)
  refine wpAny_bind (wpAny_newList ?_ hz)
  have hL : (h1.push (seqObj "list" acc.toList.toArray 0)).get? h1.objs.size = some (seqObj "list" acc.toList.toArray 0) := Heap.get?_push_size _ rfl
  refine wpAny_bind (wpAny_holding (wpAny_call_entry_kw slot_list_sort ⟨_, hL, rfl⟩ entry_list_sort ?body (ksk_l1 _ _)))
  rw [ksk_t1]
  have up : ∀ {g : Heap}, KeepsBut h1.objs.size (h1.push (seqObj "list" acc.toList.toArray 0)) g → ∀ b o, s.heap.get? b = some o → g.get? b = some o := fun {g} kp b o q =>
    kp b o (Nat.ne_of_lt (Heap.lt_size (hk b o q))) (Heap.get?_push_of_some _ (hk b o q))
  refine keyH_tree (kz := (List.range n).map fun i => PyData.int (k i)) (s := { s with heap := h1.push (seqObj "list" acc.toList.toArray 0), toks := tk1 }) hL (by rw [List.length_map, List.length_range]; exact hal.symm) hz ?al ?so ?un
    (keyH_turns (s := { s with heap := h1.push (seqObj "list" acc.toList.toArray 0), toks := tk1 }) eR fun v x hR hx h tk kp => ?_) fun h' tk out c kp hD ko => ⟨_, rfl, ?_⟩
  case al =>
    intro d hd d' hd'
    obtain ⟨i, _, rfl⟩ := List.mem_map.mp hd
    obtain ⟨j, _, rfl⟩ := List.mem_map.mp hd'
    rfl
  case so =>
    refine .inr fun d hd => ?_
    obtain ⟨i, _, rfl⟩ := List.mem_map.mp hd
    exact ⟨(fun e => nomatch e), (fun xs e => nomatch e)⟩
  case un =>
    intro d hd
    obtain ⟨i, _, rfl⟩ := List.mem_map.mp hd
    show A.units + 1 + 1 + 0 < cLine
    omega
  · obtain ⟨tt, rfl⟩ := hR
    exact turn x tt (List.mem_range.mp hx) h tk (up kp)
  · refine wpAny_pure ⟨_, rfl, ?_⟩
    refine fin out c h1 h' tk h1.objs.size hk (fun b o q => kp b o (Nat.ne_of_lt (Heap.lt_size q)) (Heap.get?_push_of_some _ q)) (Nat.le_refl _) hD ?_ (keyedOut_each (fun i => PyData.int (k i)) ko eR)
    · exact (ko.length (by rw [List.length_map, List.length_range]; exact hal.symm)).trans hal
end
/-! ### the order -/
def leK (k : Nat → Int) (i j : Nat) : Bool := decide (k i ≤ k j)
def orderOf (ns : List Int) : List Nat := (List.range ns.length).mergeSort (leK fun i => ns.getD i 0)
theorem dataLe_int (k : Nat → Int) (i j : Nat) : dataLe false (fun i => PyData.int (k i)) i j = leK k i j := by
  show (!(decide (k j < k i) || (!decide (k i < k j) && false))) = decide (k i ≤ k j)
  rw [Bool.and_false, Bool.or_false]
  by_cases h : k j < k i
  · rw [decide_eq_true h, decide_eq_false (by omega)]
    rfl
  · rw [decide_eq_false h, decide_eq_true (by omega)]
    rfl
theorem vals_each {out : List Value} {is : List Nat} (h : EachIs (fun v (i : Nat) => ∃ t, v = .int (i : Int) t) out is) : L2.Vals (is.map fun (i : Nat) => L2.V.int (i : Int)) out := by
  induction h with
  | nil => exact .nil
  | cons h _ ih => exact .cons h ih
end Fp
namespace Fp
open PySem PySem.Spec PyProof.Rows L2 LamX
section
variable {X : Cx}
theorem cr_range1 : CallR X (.type "range") (fun vs H Q => ∃ j, vs = [V.int j] ∧ ∀ p, H p = none → Q (.ref p) (upd H p (.rng 0 j))) := by
  intro pins s σ H vs us Q I r h
  obtain ⟨j, rfl, q⟩ := h
  obtain ⟨u, rfl, t, rfl⟩ := vals1 r
  refine call_range_1 ⟨.ref s.heap.objs.size, upd H s.heap.objs.size (.rng 0 j), I.laid (t' := s.toks + 1 + 1) (fun b o e => Heap.get?_push_of_some _ e) (Nat.le_refl _) ?_, rfl, q _ (I.hok.fresh (Nat.le_refl _))⟩
  exact ⟨_, _, _, Heap.get?_push_size _ rfl⟩
/-- sorted(range(len(xs)), key=lambda i: xs[i]): l in slot iL holds xs -/
def tSortLam (T : List (Addr × Str)) (iL : Nat) (ta : TA) : TE := fun σ H Q => ta σ H fun vs H1 => ∃ (r l : Addr) (ns : List Int), vs = [.ref r] ∧ H1 r = some (.rng 0 (ns.length : Int)) ∧ Tabs T H1 ∧ σ[iL]? = some (some (.ref l)) ∧ H1 l = some (.lst (ns.map V.int)) ∧ ns.length ≤ 1000 ∧
  ∀ p H2, ExtN H1 H2 → Tabs T H2 → H2 p = none → Q (.ref p) (upd H2 p (.lst ((orderOf ns).map fun (i : Nat) => V.int (i : Int))))
theorem pe_sortLam {T : List (Addr × Str)} {c P : Addr} {iL k : Nat} {e : Expr} {ta : TA} {params : Arguments} {scope : Scope} {xL xP : Str} {p p1 p2 p3 lpos kpos pos : Pos} (hg : Gl X "sorted") (hm : X.mg "sorted" = none) (ha : PA X [e] ta)
    (TB : TabB X.base X.mg c P) (hcode : X.env.code = .ref c) (hmT : (P, X.env.qual ++ "<lambda>") ∈ T) (hu : ∀ p ∈ T, p.1 = P → p.2 = X.env.qual ++ "<lambda>") (hr : Room k X.A) (hN : X.N[iL]? = some xL)
    (hcalm : X.calm = true)
    (hcL : X.env.scope.names.lookup xL = some .cell) (hkind : scope.kind = .function) (hco : scope.isCoroutine = false) (hgen : scope.isGenerator = false) (hnm : scope.names = [(xP, .local), (xL, .free)]) (hne : (xP == xL) = false)
    (hdef : defaultsOf params X.env = ([], []))
    (hbind : ∀ (q : Str) (cl : List (Str × Addr)) (pm cv ctv v : Value), bindArgs (PySem.W.kla_fn "<lambda>" q params (.Subscript (.Name xL p1) (.Name xP p2) p3) scope cl pm cv ctv) ⟨[v], []⟩ = pure [(xP, v)])
    (hd1 : (xL == ("__debug__" : Str)) = false := by decide) (hd2 : (xP == ("__debug__" : Str)) = false := by decide) (hd3 : (xL == ("__classdict__" : Str)) = false := by decide)
    (he : backTo pos (starEach [e] X.env) = (false, eval e X.env) :: backTo pos (starEach [] X.env) := by rfl) (hpl : (backTo pos (starEach [e] X.env)).any (·.1) = false := by rfl) :
    PE X (.Call (.Name "sorted" p) [e] [⟨some "key", .Lambda params (.Subscript (.Name xL p1) (.Name xP p2) p3) scope lpos, kpos⟩] pos) (tSortLam T iL ta) := by
  refine ⟨fun pins s σ H Q I h => ?_⟩
  refine wpAny_Call_Name_kw (ld_blt I hg hm (show bootBuiltins "sorted" = some (.builtin "sorted") by decide +kernel) ?_)
  refine PyProof.Rows.callWith_kw (thn (ha.run pos pins s σ H _ I h) fun us s1 ⟨vs, H1, I1, r1, q1⟩ => ?_) he hpl rfl rfl
  obtain ⟨r, l, ns, rfl, hrng, hT, hσ, hl, hlen, q⟩ := q1
  obtain ⟨u1, rfl, e1⟩ := vals1 r1
  obtain rfl : u1 = Value.ref r := e1
  show wpAny _ _ (evalAll ((do let v ← eval (.Lambda params (.Subscript (.Name xL p1) (.Name xP p2) p3) scope lpos) X.env; standAt pos; pure v) :: [])) _ _ s1
  refine wpAny_evalAll_cons (wpAny_bind (lam_make2 I1 TB hcode hmT hu hT hdef (fun y hy ey => ?_) fun f c' pm ctv H2 s2 I2 eN T2 hf hfn hfr hco2 => wpAny_bind (wpAny_standAt (wpAny_pure (wpAny_evalAll_nil ?_)))))
  · rw [hnm] at hy
    rcases List.mem_cons.mp hy with z | z
    · rw [z] at ey
      cases ey
    · rw [List.mem_singleton.mp z]
      exact I1.ok.has _ (.inl hcL)
  show wpAny _ _ (call (.builtin "sorted") [.ref r] [(Str.ofString "key", .ref f)]) _ _ _
  have hr2 : H2 r = some (.rng 0 (ns.length : Int)) := eN r _ hrng (fun ps z => by cases z)
  have hl2 : H2 l = some (.lst (ns.map V.int)) := eN l _ hl (fun ps z => by cases z)
  obtain ⟨t, u, v, hrr⟩ := I2.hok r _ hr2
  obtain ⟨hz, its, cn, hv, hget⟩ := I2.hok l _ hl2
  obtain ⟨m, hn, hloc⟩ := I2.loc
  obtain ⟨ul, rul, look⟩ := hloc iL xL (.ref l) hN hσ (.inr (.inl hcL))
  obtain rfl : ul = Value.ref l := rul
  obtain ⟨cL, hcl, hcell⟩ : ∃ cL, X.env.cells.lookup xL = some cL ∧ s2.heap.IsCell cL (some (.ref l)) := by
    rcases look with ⟨hk, _⟩ | ⟨_, c3, h1, h2⟩
    · have hk : X.env.scope.names.lookup xL = some .local := hk
      rw [hcL] at hk
      cases hk
    · exact ⟨c3, h1, h2⟩
  have hclo : (cloFrom X.env.cells scope.names []).lookup xL = some cL := by
    rw [hnm]
    show (cloFrom X.env.cells [(xL, .free)] []).lookup xL = some cL
    show ([(xL, (X.env.cells.lookup xL).getD 0)] : List (Str × Addr)).lookup xL = some cL
    rw [hcl]
    simp [List.lookup]
  obtain ⟨⟨oc, cvs, ct, hoc, hdc, hvc⟩, _, _⟩ := I2.hok c' _ hco2
  refine sorted_range_key (n := ns.length) (fun i => ns.getD i 0) (I2.ok.hd hcalm) hrr rfl (by omega) (by have := hr.un; omega) (fun i tt hi h tk kp => ?_) fun out c g h' tk p kg gh hgp hp lo each => ?_
  · have hx : (ns.map V.int)[i]? = some (.int (ns.getD i 0)) := by
      rw [List.getElem?_map, List.getElem?_eq_getElem hi, List.getD_eq_getElem?_getD, List.getElem?_eq_getElem hi]
      rfl
    obtain ⟨w', ew, tx, rfl⟩ := hv.get hx
    obtain ⟨oC, hoC, hdC⟩ := hcell
    refine key_turn (A := X.A.in1.in1) (cL := cL) (a := l) (its := its.toArray) (by show X.A.depth < recursionLimit; have := hr.dp; omega) (kp _ _ hf) hkind hco hgen ?_ ?_ ?_ hclo ⟨oC, kp _ _ hoC, hdC⟩ ⟨oc, cvs, ct, kp _ _ hoc, hdc, hvc⟩ (fun v => hbind _ _ _ _ _ v) (I2.nolimit.keeps kp) ⟨_, kp _ _ hget, rfl, cn, rfl⟩ (by omega) (by omega) (by simpa using ew) hd1 hd2 hd3
    · intro y hy
      rw [hnm] at hy
      rcases List.mem_cons.mp hy with z | z
      · rw [z]
        exact (fun e => nomatch e)
      · rw [List.mem_singleton.mp z]
        exact (fun e => nomatch e)
    · rw [hnm]
      simp [List.lookup]
    · rw [hnm]
      have : (xL == xP) = false := by
        rw [← Bool.not_eq_true] at hne ⊢
        intro z
        exact hne (by rw [beq_iff_eq] at z ⊢; exact z.symm)
      simp [List.lookup, this]
  · have I3 : Inv X pins σ H2 { s2 with heap := g, toks := tk } := I2.kept kg
    have fr : H2 p = none := I3.hok.fresh hgp
    have each2 : PySem.W.EachIs (fun v (i : Nat) => ∃ t, v = .int (i : Int) t) out (orderOf ns) := by
      have es : (List.range ns.length).mergeSort (PySem.W.dataLe false fun i => PyData.int (ns.getD i 0)) = orderOf ns := PySem.W.sort_congr fun a _ b _ => dataLe_int _ a b
      rw [← es]
      exact each
    have ol : (orderOf ns).length = ns.length := by
      unfold orderOf
      rw [List.length_mergeSort, List.length_range]
    have I4 : Inv X pins σ (upd H2 p (.lst ((orderOf ns).map fun (i : Nat) => V.int (i : Int)))) { s2 with heap := h', toks := tk } := I3.laid (t' := tk) gh hgp ⟨by rw [List.length_map, ol]; exact sz (by omega), out, c, vals_each each2, hp⟩
    exact ⟨.ref p, _, I4, rfl, q p H2 eN T2 fr⟩
end
end Fp

set_option Elab.async false
set_option linter.all false
set_option maxRecDepth 100000
set_option maxHeartbeats 4000000
/-! words by lengths: the mathematics. -/
namespace Fp
open PySem PyProof.Rows
/-! ### the order by buckets -/
theorem leK_total (k : Nat → Int) : PySem.W.TotalLe (leK k) where
  trans := fun a b c h1 h2 => by
    unfold leK at *
    have := of_decide_eq_true h1
    have := of_decide_eq_true h2
    exact decide_eq_true (by omega)
  total := fun a b => by
    unfold leK
    by_cases h : k a ≤ k b
    · exact .inl (decide_eq_true h)
    · exact .inr (decide_eq_true (by omega))
def buckets (k : Nat → Int) (n : Nat) : List Nat := (List.range 13).flatMap fun (v : Nat) => (List.range n).filter fun (i : Nat) => decide (k i = (v : Int))
theorem flat_one {α : Type} (X : List α) (c : Nat) : ∀ l : List Nat, l.Nodup → (l.flatMap fun v => if v = c then X else []) = if c ∈ l then X else []
  | [], _ => rfl
  | v :: r, h => by
    have h1 := List.nodup_cons.mp h
    have ih := flat_one X c r h1.2
    rw [List.flatMap_cons, ih]
    by_cases e : v = c
    · subst e
      rw [if_pos rfl, if_neg h1.1, if_pos (List.mem_cons_self ..), List.append_nil]
    · rw [if_neg e, List.nil_append]
      by_cases m : c ∈ r
      · rw [if_pos m, if_pos (List.mem_cons_of_mem _ m)]
      · rw [if_neg m, if_neg (fun z => by
          rcases List.mem_cons.mp z with z | z
          · exact e z.symm
          · exact m z)]
theorem rank_eq (k : Nat → Int) (c a : Nat) : PySem.W.sameRank (leK k) c a = decide (k a = k c) := by
  unfold PySem.W.sameRank leK
  by_cases h : k a = k c
  · rw [decide_eq_true h, decide_eq_true (by omega), decide_eq_true (by omega)]
    rfl
  · rw [decide_eq_false h]
    by_cases h2 : k c ≤ k a
    · rw [decide_eq_true h2, decide_eq_false (by omega)]
      rfl
    · rw [decide_eq_false h2]
      rfl
theorem order_buckets (k : Nat → Int) (n : Nat) (h : ∀ i, i < n → 0 ≤ k i ∧ k i ≤ 12) : (List.range n).mergeSort (leK k) = buckets k n := by
  symm
  refine PySem.W.sort_unique (leK_total k) ?_ fun c => ?_
  · unfold buckets
    rw [List.pairwise_flatMap]
    refine ⟨fun v _ => ?_, ?_⟩
    · refine List.Pairwise.imp_of_mem (fun {a b} ha hb _ => ?_) (List.Pairwise.filter _ List.pairwise_lt_range)
      have e1 := of_decide_eq_true (List.mem_filter.mp ha).2
      have e2 := of_decide_eq_true (List.mem_filter.mp hb).2
      exact decide_eq_true (by omega)
    · refine List.Pairwise.imp (fun {v v'} hv x hx y hy => ?_) List.pairwise_lt_range
      have e1 := of_decide_eq_true (List.mem_filter.mp hx).2
      have e2 := of_decide_eq_true (List.mem_filter.mp hy).2
      exact decide_eq_true (by omega)
  · have eq : PySem.W.sameRank (leK k) c = fun a => decide (k a = k c) := funext fun a => rank_eq k c a
    rw [eq]
    unfold buckets
    rw [List.filter_flatMap]
    by_cases hc : 0 ≤ k c ∧ k c ≤ 12
    · obtain ⟨vc, hvc⟩ := Int.eq_ofNat_of_zero_le hc.1
      have e : (fun v : Nat => ((List.range n).filter fun i => decide (k i = (v : Int))).filter fun a => decide (k a = k c)) = fun v => if v = vc then (List.range n).filter fun a => decide (k a = k c) else [] := by
        funext v
        by_cases ev : v = vc
        · subst ev
          rw [if_pos rfl, hvc, List.filter_filter]
          simp
        · rw [if_neg ev, List.filter_filter]
          apply List.filter_eq_nil_iff.mpr
          intro a _ z
          rw [Bool.and_eq_true, decide_eq_true_eq, decide_eq_true_eq] at z
          omega
      rw [e, flat_one _ _ _ List.nodup_range, if_pos (List.mem_range.mpr (by omega))]
    · have e1 : (List.range n).filter (fun a => decide (k a = k c)) = [] := by
        apply List.filter_eq_nil_iff.mpr
        intro a ha z
        have := h a (List.mem_range.mp ha)
        have := of_decide_eq_true z
        exact hc (by omega)
      rw [e1]
      apply List.flatMap_eq_nil_iff.mpr
      intro v _
      rw [List.filter_filter]
      apply List.filter_eq_nil_iff.mpr
      intro a ha z
      rw [Bool.and_eq_true, decide_eq_true_eq, decide_eq_true_eq] at z
      have := h a (List.mem_range.mp ha)
      exact hc (by omega)
/-! ### words -/
def lastOne : List Nat → Option Nat
  | [] => none
  | c :: r => match lastOne r with
    | some i => some (i + 1)
    | none => if c = 49 then some 0 else none
theorem lastOne_spec : ∀ w : List Nat, (lastOne w = none ∧ ∀ i : Nat, w[i]? ≠ some 49) ∨ ∃ i : Nat, lastOne w = some i ∧ w[i]? = some 49 ∧ ∀ k : Nat, i < k → w[k]? ≠ some 49
  | [] => .inl ⟨rfl, fun i h => by simp at h⟩
  | c :: r => by
    rcases lastOne_spec r with ⟨e, h⟩ | ⟨i, e, h1, h2⟩
    · by_cases hc : c = 49
      · refine .inr ⟨0, ?_, ?_, fun k hk => ?_⟩
        · show (match lastOne r with | some i => some (i + 1) | none => if c = 49 then some 0 else none) = some 0
          rw [e]
          exact if_pos hc
        · rw [hc]
          rfl
        · obtain ⟨j, rfl⟩ : ∃ j, k = j + 1 := ⟨k - 1, by omega⟩
          exact h j
      · refine .inl ⟨?_, fun i => ?_⟩
        · show (match lastOne r with | some i => some (i + 1) | none => if c = 49 then some 0 else none) = none
          rw [e]
          exact if_neg hc
        · cases i with
          | zero => exact fun z => hc (Option.some.inj z)
          | succ j => exact h j
    · refine .inr ⟨i + 1, ?_, h1, fun k hk => ?_⟩
      · show (match lastOne r with | some i => some (i + 1) | none => if c = 49 then some 0 else none) = some (i + 1)
        rw [e]
      · obtain ⟨j, rfl⟩ : ∃ j, k = j + 1 := ⟨k - 1, by omega⟩
        exact h2 j (by omega)
def lessW (w : List Nat) : List Nat := match lastOne w with
  | none => []
  | some i => w.take i ++ 48 :: List.replicate (w.length - i - 1) 49
def stepW (ns : List Nat) (st : List (List Nat) × Option (List Nat)) (p : Nat) : List (List Nat) × Option (List Nat) :=
  let b := match st.2 with
    | none => []
    | some w => lessW w
  let a := b ++ List.replicate (ns.getD p 0 - b.length) 49
  (st.1.set p a, some a)
def okW (ns : List Nat) : List Nat → List (List Nat) × Option (List Nat) → Bool
  | [], _ => true
  | p :: r, st => (match st.2 with
    | none => true
    | some w => (lastOne w).isSome) && okW ns r (stepW ns st p)
def iv (ns : List Nat) : List Int := ns.map fun (n : Nat) => (n : Int)
def startW (ns : List Nat) : List (List Nat) × Option (List Nat) := (List.replicate ns.length [], none)
def wordsOf (ns : List Nat) : List (List Nat) := ((buckets (fun i => (iv ns).getD i 0) ns.length).foldl (stepW ns) (startW ns)).1
def lightL : List Nat := [6, 4, 4, 4, 4, 4, 5, 5, 5, 5, 6, 6, 6, 6, 6, 6, 4, 5, 6, 4]
def darkL : List Nat := [7, 2, 3, 3, 4, 4, 5, 5, 5, 6, 6, 6, 7, 7, 7, 7, 6, 7, 7, 7]
def bitsVal (w : List Nat) : Nat := w.foldl (fun n c => 2 * n + if c = 49 then 1 else 0) 0
def bitsOf : Nat → Nat → List Nat → List Nat
  | 0, _, acc => acc
  | k + 1, n, acc => bitsOf k (n / 2) ((48 + n % 2) :: acc)
def lawLess (w : List Nat) : Option (List Nat) := if bitsVal w = 0 then none else some (bitsOf w.length (bitsVal w - 1) [])
def stepL (ns : List Nat) (len : Nat) (st : Option (List (List Nat) × List Nat)) (p : Nat) : Option (List (List Nat) × List Nat) := match st with
  | none => none
  | some (f, l) => if ns.getD p 0 = len then (match (if l = [] then some [] else lawLess l) with
      | none => none
      | some b => some (f.set p (b ++ List.replicate (len - b.length) 49), b ++ List.replicate (len - b.length) 49)) else some (f, l)
def rowL (ns : List Nat) (st : Option (List (List Nat) × List Nat)) (len : Nat) : Option (List (List Nat) × List Nat) := (List.range ns.length).foldl (stepL ns len) st
def lawW (ns : List Nat) : Option (List (List Nat) × List Nat) := ((List.range 12).map (· + 1)).foldl (rowL ns) (some (List.replicate ns.length [], []))
theorem light_ok : okW lightL (buckets (fun i => (iv lightL).getD i 0) lightL.length) (startW lightL) = true := by decide +kernel
theorem dark_ok : okW darkL (buckets (fun i => (iv darkL).getD i 0) darkL.length) (startW darkL) = true := by decide +kernel
theorem light_same : (lawW lightL).map (·.1) = some (wordsOf lightL) := by decide +kernel
theorem dark_same : (lawW darkL).map (·.1) = some (wordsOf darkL) := by decide +kernel
theorem third_some : (lawW [1, 3, 3, 3, 5, 5, 6, 6, 6]).isSome = true := by decide +kernel

theorem okW_at {ns : List Nat} : ∀ (ord : List Nat) (st0 : List (List Nat) × Option (List Nat)) (i p : Nat), ord[i]? = some p → okW ns ord st0 = true → ∀ w, ((ord.take i).foldl (stepW ns) st0).2 = some w → ∃ j, lastOne w = some j
  | [], _, i, p, h, _ => by simp at h
  | q :: r, st0, 0, p, h, ok => fun w hw => by
    unfold okW at ok
    rw [Bool.and_eq_true] at ok
    have h1 := ok.1
    have hw : st0.2 = some w := hw
    rw [hw] at h1
    exact Option.isSome_iff_exists.mp h1
  | q :: r, st0, i + 1, p, h, ok => by
    unfold okW at ok
    rw [Bool.and_eq_true] at ok
    exact okW_at r (stepW ns st0 q) i p h ok.2
def LenW (st : List (List Nat) × Option (List Nat)) : Prop := ∀ w, st.2 = some w → w.length ≤ 12
theorem lessW_le (w : List Nat) : (lessW w).length ≤ w.length := by
  unfold lessW
  rcases lastOne_spec w with ⟨e, _⟩ | ⟨i, e, h1, _⟩
  · rw [e]
    exact Nat.zero_le _
  · rw [e]
    have := (List.getElem?_eq_some_iff.mp h1).1
    show (w.take i ++ 48 :: List.replicate (w.length - i - 1) 49).length ≤ w.length
    rw [List.length_append, List.length_cons, List.length_replicate, List.length_take]
    omega
theorem lenW_step {ns : List Nat} (hn : ∀ n ∈ ns, n ≤ 12) {st : List (List Nat) × Option (List Nat)} (h : LenW st) (p : Nat) : LenW (stepW ns st p) := by
  intro w hw
  have hg : ns.getD p 0 ≤ 12 := by
    rw [List.getD_eq_getElem?_getD]
    cases e : ns[p]? with
    | none => exact Nat.zero_le _
    | some n => exact hn n (List.mem_of_getElem? e)
  have e : (match st.2 with | none => [] | some w => lessW w) ++ List.replicate (ns.getD p 0 - (match st.2 with | none => [] | some w => lessW w).length) 49 = w := Option.some.inj hw
  rw [← e, List.length_append, List.length_replicate]
  cases h2 : st.2 with
  | none => show 0 + (ns.getD p 0 - 0) ≤ 12; omega
  | some u =>
    have := h u h2
    have := lessW_le u
    show (lessW u).length + (ns.getD p 0 - (lessW u).length) ≤ 12
    omega
theorem lenW_fold {ns : List Nat} (hn : ∀ n ∈ ns, n ≤ 12) : ∀ (ord : List Nat) (st : List (List Nat) × Option (List Nat)), LenW st → LenW (ord.foldl (stepW ns) st)
  | [], _, h => h
  | p :: r, st, h => lenW_fold hn r _ (lenW_step hn h p)
theorem lenW_start (ns : List Nat) : LenW (startW ns) := fun w h => nomatch h
theorem words_len (ns : List Nat) : ∀ (ord : List Nat) (st : List (List Nat) × Option (List Nat)), (ord.foldl (stepW ns) st).1.length = st.1.length
  | [], _ => rfl
  | p :: r, st => by
    rw [List.foldl_cons, words_len ns r]
    exact List.length_set
theorem mem_buckets {k : Nat → Int} {n p : Nat} (h : p ∈ buckets k n) : p < n := by
  unfold buckets at h
  obtain ⟨v, _, hv⟩ := List.mem_flatMap.mp h
  exact List.mem_range.mp (List.mem_filter.mp hv).1
theorem iv_len (ns : List Nat) : (iv ns).length = ns.length := List.length_map ..
theorem order_iv {ns : List Nat} (hn : ∀ n ∈ ns, n ≤ 12) : orderOf (iv ns) = buckets (fun i => (iv ns).getD i 0) ns.length := by
  unfold orderOf
  rw [iv_len]
  refine order_buckets _ _ fun i hi => ?_
  have e : (iv ns).getD i 0 = (ns[i] : Int) := by
    unfold iv
    rw [List.getD_eq_getElem?_getD, List.getElem?_map, List.getElem?_eq_getElem hi]
    rfl
  have := hn ns[i] (List.getElem_mem hi)
  show 0 ≤ (iv ns).getD i 0 ∧ (iv ns).getD i 0 ≤ 12
  rw [e]
  omega
theorem lens_light : ∀ w ∈ Fp.wordsOf lightL, w.length ≤ 12 := by decide +kernel
theorem lens_dark : ∀ w ∈ Fp.wordsOf darkL, w.length ≤ 12 := by decide +kernel
theorem len_light : (Fp.wordsOf lightL).length = 20 := by decide +kernel
theorem len_dark : (Fp.wordsOf darkL).length = 20 := by decide +kernel
def runT (W : List (List Nat)) (r : Nat) : List Nat := if r < 16 then W.getD r [] else W.getD (15 + r / 16) [] ++ W.getD (r - r / 16 * 16) []
theorem foldl_keep {α β : Type} (f : Option α → β → Option α) (h : ∀ b, f none b = none) : ∀ l : List β, l.foldl f none = none
  | [] => rfl
  | b :: r => by
    rw [List.foldl_cons, h]
    exact foldl_keep f h r
theorem fold_take {α β : Type} (f : Option α → β → Option α) (h : ∀ b, f none b = none) (l : List β) (s : Option α) (i : Nat) (e : (l.take i).foldl f s = none) : l.foldl f s = none := by
  rw [← List.take_append_drop i l, List.foldl_append, e]
  exact foldl_keep f h _
theorem stepL_none (ns : List Nat) (len p : Nat) : stepL ns len none p = none := rfl
theorem rowL_none (ns : List Nat) (len : Nat) : rowL ns none len = none := foldl_keep _ (stepL_none ns len) _
def ls12 : List Nat := (List.range 12).map (· + 1)
theorem ls12_at {i : Nat} (h : i < 12) : ls12[i]? = some (i + 1) := by
  unfold ls12
  rw [List.getElem?_map, List.getElem?_range h]
  rfl
theorem lawW_eq (ns : List Nat) : lawW ns = ls12.foldl (rowL ns) (some (List.replicate ns.length [], [])) := rfl
theorem lawLess_len {l b : List Nat} (h : lawLess l = some b) : b.length = l.length := by
  have key : ∀ (k n : Nat) (acc : List Nat), (bitsOf k n acc).length = k + acc.length := by
    intro k
    induction k with
    | zero => intro n acc; show acc.length = 0 + acc.length; omega
    | succ k ih =>
      intro n acc
      show (bitsOf k (n / 2) ((48 + n % 2) :: acc)).length = _
      rw [ih, List.length_cons]
      omega
  unfold lawLess at h
  split at h
  · cases h
  · have := Option.some.inj h
    rw [← this, key]
    rfl
theorem stepL_no {ns : List Nat} {len p : Nat} {f : List (List Nat)} {l : List Nat} (h : ¬ ns.getD p 0 = len) : stepL ns len (some (f, l)) p = some (f, l) := if_neg h
theorem stepL_yes {ns : List Nat} {len p : Nat} {f : List (List Nat)} {l b : List Nat} (h : ns.getD p 0 = len) (hb : (if l = [] then some [] else lawLess l) = some b) :
    stepL ns len (some (f, l)) p = some (f.set p (b ++ List.replicate (len - b.length) 49), b ++ List.replicate (len - b.length) 49) := by
  refine (if_pos h).trans ?_
  rw [hb]
theorem stepL_bad {ns : List Nat} {len p : Nat} {f : List (List Nat)} {l : List Nat} (h : ns.getD p 0 = len) (hb : (if l = [] then some [] else lawLess l) = none) : stepL ns len (some (f, l)) p = none := by
  refine (if_pos h).trans ?_
  rw [hb]
end Fp

set_option Elab.async false
set_option linter.all false
set_option maxRecDepth 100000
set_option maxHeartbeats 4000000
namespace K07
open PySem PySem.Spec PyProof.Rows L2 Fp
def topS (i : Nat) : Stmt := PySem.Challenge.pw_farpage_k07_run_bits.main.body.getD i (.Pass ⟨0, 0, 0, 0⟩)
abbrev s_words_by : Stmt := topS 7
abbrev N_words_by : List Str := ["lengths", "words", "ahead", "place", "begin"]
abbrev P_words_by : List Str := ["lengths"]
theorem sc_words_by : FnScope N_words_by P_words_by (defScope s_words_by) := ⟨rfl, rfl, rfl, by decide +kernel, rfl, by decide +kernel, by decide +kernel⟩
abbrev s_making_order : Stmt := topS 8
abbrev N_making_order : List Str := ["lengths"]
abbrev P_making_order : List Str := ["lengths"]
theorem sc_making_order : FnScope N_making_order P_making_order (defScope s_making_order) := ⟨rfl, rfl, rfl, by decide +kernel, rfl, by decide +kernel, by decide +kernel⟩
abbrev s_one_less : Stmt := topS 9
abbrev N_one_less : List Str := ["word", "last"]
abbrev P_one_less : List Str := ["word"]
theorem sc_one_less : FnScope N_one_less P_one_less (defScope s_one_less) := ⟨rfl, rfl, rfl, by decide +kernel, rfl, by decide +kernel, by decide +kernel⟩
abbrev s_colour_words : Stmt := topS 10
abbrev N_colour_words : List Str := ["cell"]
abbrev P_colour_words : List Str := ["cell"]
theorem sc_colour_words : FnScope N_colour_words P_colour_words (defScope s_colour_words) := ⟨rfl, rfl, rfl, by decide +kernel, rfl, by decide +kernel, by decide +kernel⟩
abbrev s_run_bits : Stmt := topS 11
abbrev N_run_bits : List Str := ["cell", "run"]
abbrev P_run_bits : List Str := ["cell", "run"]
theorem sc_run_bits : FnScope N_run_bits P_run_bits (defScope s_run_bits) := ⟨rfl, rfl, rfl, by decide +kernel, rfl, by decide +kernel, by decide +kernel⟩
abbrev s_run_by : Stmt := topS 12
abbrev N_run_by : List Str := ["words", "run", "maker"]
abbrev P_run_by : List Str := ["words", "run"]
theorem sc_run_by : FnScope N_run_by P_run_by (defScope s_run_by) := ⟨rfl, rfl, rfl, by decide +kernel, rfl, by decide +kernel, by decide +kernel⟩
abbrev s_bag : Stmt := topS 14
abbrev N_bag : List Str := ["_law_script", "_law_at", "_law_cell", "_law_great"]
abbrev P_bag : List Str := ["_law_script", "_law_at"]
theorem sc_bag : FnScope N_bag P_bag (defScope s_bag) := ⟨rfl, rfl, rfl, by decide +kernel, rfl, by decide +kernel, by decide +kernel⟩
abbrev s_draw : Stmt := topS 15
abbrev N_draw : List Str := ["_law_bag_here", "_law_many", "_law_digit"]
abbrev P_draw : List Str := ["_law_bag_here", "_law_many"]
theorem sc_draw : FnScope N_draw P_draw (defScope s_draw) := ⟨rfl, rfl, rfl, by decide +kernel, rfl, by decide +kernel, by decide +kernel⟩
abbrev s_less : Stmt := topS 16
abbrev N_less : List Str := ["_law_word", "_law_number", "_law_bit", "_law_found"]
abbrev P_less : List Str := ["_law_word"]
theorem sc_less : FnScope N_less P_less (defScope s_less) := ⟨rfl, rfl, rfl, by decide +kernel, rfl, by decide +kernel, by decide +kernel⟩
abbrev s_words : Stmt := topS 17
abbrev N_words : List Str := ["_law_lengths", "_law_found", "_law_last", "_law_length", "_law_place"]
abbrev P_words : List Str := ["_law_lengths"]
theorem sc_words : FnScope N_words P_words (defScope s_words) := ⟨rfl, rfl, rfl, by decide +kernel, rfl, by decide +kernel, by decide +kernel⟩
abbrev s_tables : Stmt := topS 18
abbrev N_tables : List Str := ["_law_light", "_law_dark"]
abbrev P_tables : List Str := []
theorem sc_tables : FnScope N_tables P_tables (defScope s_tables) := ⟨rfl, rfl, rfl, by decide +kernel, rfl, by decide +kernel, by decide +kernel⟩
abbrev s_run : Stmt := topS 19
abbrev N_run : List Str := ["_law_tables_here", "_law_colour", "_law_run_here", "_law_words_here"]
abbrev P_run : List Str := ["_law_tables_here", "_law_colour", "_law_run_here"]
theorem sc_run : FnScope N_run P_run (defScope s_run) := ⟨rfl, rfl, rfl, by decide +kernel, rfl, by decide +kernel, by decide +kernel⟩
abbrev s_law : Stmt := topS 20
abbrev N_law : List Str := ["_law_script", "_law_tables_here", "_law_runs", "_law_k", "_law_bag_here", "_law_turn", "_law_colour", "_law_run_here"]
abbrev P_law : List Str := ["_law_script"]
theorem sc_law : FnScope N_law P_law (defScope s_law) := ⟨rfl, rfl, rfl, by decide +kernel, rfl, by decide +kernel, by decide +kernel⟩
structure Ad where
  a_words_by : Addr
  d_words_by : FuncData
  a_making_order : Addr
  d_making_order : FuncData
  a_one_less : Addr
  d_one_less : FuncData
  a_colour_words : Addr
  d_colour_words : FuncData
  a_run_bits : Addr
  d_run_bits : FuncData
  a_run_by : Addr
  d_run_by : FuncData
  a_bag : Addr
  d_bag : FuncData
  a_draw : Addr
  d_draw : FuncData
  a_less : Addr
  d_less : FuncData
  a_words : Addr
  d_words : FuncData
  a_tables : Addr
  d_tables : FuncData
  a_run : Addr
  d_run : FuncData
  a_law : Addr
  d_law : FuncData
  t_ENDS : Tok
  t_LENGTHS : Addr
  t_MAKERS : Tok
  k_making_order : Addr
  p_making_order : Addr
  u_LENGTHS_0 : Addr
  u_LENGTHS_1 : Addr
structure Txt (w : World) (K : PySem.W.Frag) (mg : Str → Option Value) (base : Heap) (A : Ad) : Prop where
  F_words_by : Fun K "words_by" "words_by" s_words_by A.a_words_by A.d_words_by
  b_words_by : Binds K A.d_words_by P_words_by []
  g_words_by : mg "words_by" = some (.ref A.a_words_by)
  F_making_order : Fun K "making_order" "making_order" s_making_order A.a_making_order A.d_making_order
  b_making_order : Binds K A.d_making_order P_making_order []
  g_making_order : mg "making_order" = some (.ref A.a_making_order)
  F_one_less : Fun K "one_less" "one_less" s_one_less A.a_one_less A.d_one_less
  b_one_less : Binds K A.d_one_less P_one_less []
  g_one_less : mg "one_less" = some (.ref A.a_one_less)
  F_colour_words : Fun K "colour_words" "colour_words" s_colour_words A.a_colour_words A.d_colour_words
  b_colour_words : Binds K A.d_colour_words P_colour_words []
  g_colour_words : mg "colour_words" = some (.ref A.a_colour_words)
  F_run_bits : Fun K "run_bits" "run_bits" s_run_bits A.a_run_bits A.d_run_bits
  b_run_bits : Binds K A.d_run_bits P_run_bits []
  g_run_bits : mg "run_bits" = some (.ref A.a_run_bits)
  F_run_by : Fun K "run_by" "run_by" s_run_by A.a_run_by A.d_run_by
  b_run_by : Binds K A.d_run_by P_run_by []
  g_run_by : mg "run_by" = some (.ref A.a_run_by)
  F_bag : Fun K "_law_bag" "_law_bag" s_bag A.a_bag A.d_bag
  b_bag : Binds K A.d_bag P_bag []
  g_bag : mg "_law_bag" = some (.ref A.a_bag)
  F_draw : Fun K "_law_draw" "_law_draw" s_draw A.a_draw A.d_draw
  b_draw : Binds K A.d_draw P_draw []
  g_draw : mg "_law_draw" = some (.ref A.a_draw)
  F_less : Fun K "_law_less" "_law_less" s_less A.a_less A.d_less
  b_less : Binds K A.d_less P_less []
  g_less : mg "_law_less" = some (.ref A.a_less)
  F_words : Fun K "_law_words" "_law_words" s_words A.a_words A.d_words
  b_words : Binds K A.d_words P_words []
  g_words : mg "_law_words" = some (.ref A.a_words)
  F_tables : Fun K "_law_tables" "_law_tables" s_tables A.a_tables A.d_tables
  b_tables : Binds K A.d_tables P_tables []
  g_tables : mg "_law_tables" = some (.ref A.a_tables)
  F_run : Fun K "_law_run" "_law_run" s_run A.a_run A.d_run
  b_run : Binds K A.d_run P_run []
  g_run : mg "_law_run" = some (.ref A.a_run)
  F_law : Fun K "law" "law" s_law A.a_law A.d_law
  g_law : mg "law" = some (.ref A.a_law)
  TB_making_order : LamX.TabB base mg A.k_making_order A.p_making_order
  L_making_order : ∃ (oc : Value) (od : Option Addr) (kV doc pm : Value) (an : Option Addr) (ct : Value) (osl : Array (Option Value)), K.lookup A.a_making_order = some ⟨oc, od, .func (PySem.W.fnOf "making_order" "making_order" (defArgs s_making_order) (defBody s_making_order) (defScope s_making_order) .none kV doc pm an (.ref A.k_making_order) ct), osl⟩ ∧ PySem.W.codeIn K (.ref A.k_making_order) "making_order" = true
  D_LENGTHS_0 : KDct K w A.t_LENGTHS (Str.ofString ".") (.ref A.u_LENGTHS_0)
  S_LENGTHS_0 : ∀ H : Hp, SqT K H A.u_LENGTHS_0 [.int 6, .int 4, .int 4, .int 4, .int 4, .int 4, .int 5, .int 5, .int 5, .int 5, .int 6, .int 6, .int 6, .int 6, .int 6, .int 6, .int 4, .int 5, .int 6, .int 4]
  D_LENGTHS_1 : KDct K w A.t_LENGTHS (Str.ofString "#") (.ref A.u_LENGTHS_1)
  S_LENGTHS_1 : ∀ H : Hp, SqT K H A.u_LENGTHS_1 [.int 7, .int 2, .int 3, .int 3, .int 4, .int 4, .int 5, .int 5, .int 5, .int 6, .int 6, .int 6, .int 7, .int 7, .int 7, .int 7, .int 6, .int 7, .int 7, .int 7]
  z_abs : mg "abs" = none
  z_int : mg "int" = none
  z_len : mg "len" = none
  z_list : mg "list" = none
  z_min : mg "min" = none
  z_range : mg "range" = none
  z_sorted : mg "sorted" = none
  c_ENDS : mg "ENDS" = some (.int 16 A.t_ENDS)
  c_LENGTHS : mg "LENGTHS" = some (.ref A.t_LENGTHS)
  c_MAKERS : mg "MAKERS" = some (.int 4 A.t_MAKERS)
section
variable {P : Program} {w : World} {K : PySem.W.Frag} {mg : Str → Option Value} {base : Heap}
def spBag (K : PySem.W.Frag) : Sp := fun vs H Q _ => ∃ (a : Addr) (ns : List Int) (k : Int), vs = [.ref a, .int k] ∧ SqL K H a (ns.map V.int) ∧ 0 ≤ k ∧ k ≤ 1000 ∧
  ∀ p g s, H p = none → 0 ≤ g → 0 ≤ s → s < 1000000000000 → Q (.ref p) (upd H p (.lst [.int g, .int s]))
theorem ok_bag {A : Ad} (T : Txt w K mg base A) : FnOk P w K mg base CX0 1 A.a_bag A.d_bag P_bag (spBag K) := by
  refine T.F_bag.ok sc_bag (fun vs H Q E h => ?_) (fun cdv Ar outer s H vs Q E hr h => ?_)
  · obtain ⟨a, ns, k, rfl, _⟩ := h
    rfl
  · obtain ⟨a, ns, k, rfl, hS, k0, k1, q⟩ := h
    refine ⟨_, (pss_cons (ps_set (i := 2) sc_bag.nd rfl (Or.inl rfl) pe_int)
      (pss_cons (ps_if (pt_cmpR op_lt (pv 1) (pe_callB (r := fun xs H Q => ∃ p ys, xs = [.ref p] ∧ (SqL K H p ys ∨ SqT K H p ys) ∧ Q (.int ys.length) H) call_len_seq (by rfl) T.z_len PySem.boot_len (pa_cons (pv 0) pa_nil)) (nomark _))
      (pss_one (ps_set (i := 2) sc_bag.nd rfl (Or.inl rfl) (pe_ix (r := rIxL K) ix_list (pv 0) (pv 1) (fun _ _ => rfl)))) pss_nil)
      (pss_cons (ps_set (i := 3) sc_bag.nd rfl (Or.inl rfl) pe_int)
      (pss_cons (ps_if (pt_cmpR op_ge (pe_callB call_abs (by rfl) T.z_abs (by decide +kernel) (pa_cons (pv 2) pa_nil)) (pe_op op_pow pe_int pe_int) (nomark _))
      (pss_one (ps_set (i := 3) sc_bag.nd rfl (Or.inl rfl) (pe_callB call_abs (by rfl) T.z_abs (by decide +kernel) (pa_cons (pv 2) pa_nil)))) pss_nil)
      (pss_one (ps_ret (pe_lst (pa_cons (pv 3) (pa_cons (pe_op op_add (pe_op op_add (pe_op op_mul (pe_op op_mod (pv 2) pe_int) pe_int) (pe_op op_mul pe_int (pv 1))) pe_int) pa_nil))))))))), ?_⟩
    have fin : ∀ (c g : Int), 0 ≤ g → tSeq (tIfS (tTest (tOp (rI0 fun i j => .bl (decide (j ≤ i))) (tCB (fun xs H Q => ∃ i, xs = [.int i] ∧ Q (.int (if i < 0 then -i else i)) H) (tCons (tVar 2) tNil)) (tOp (rI CPow fun i j => .int (i ^ j.toNat)) (tC (.int 10)) (tC (.int 18))))) (tAsg (tCB (fun xs H Q => ∃ i, xs = [.int i] ∧ Q (.int (if i < 0 then -i else i)) H) (tCons (tVar 2) tNil)) (gName 3)) tNext)
        (tRet (tLst (tCons (tVar 3) (tCons (tOp (rI0 fun i j => .int (i + j)) (tOp (rI0 fun i j => .int (i + j)) (tOp (rI CMul fun i j => .int (i * j)) (tOp (rI (fun _ j => 0 < j) fun i j => .int (i % j)) (tVar 2) (tC (.int 1000000007))) (tC (.int 7))) (tOp (rI CMul fun i j => .int (i * j)) (tC (.int 1013)) (tVar 1))) (tC (.int 5))) tNil)))) { nx := fun _ H' => Q .non H', rt := Q } [some (.ref a), some (.int k), some (.int c), some (.int g)] H := by
      intro c g g0
      have fin2 : ∀ (g : Int), 0 ≤ g → tRet (tLst (tCons (tVar 3) (tCons (tOp (rI0 fun i j => .int (i + j)) (tOp (rI0 fun i j => .int (i + j)) (tOp (rI CMul fun i j => .int (i * j)) (tOp (rI (fun _ j => 0 < j) fun i j => .int (i % j)) (tVar 2) (tC (.int 1000000007))) (tC (.int 7))) (tOp (rI CMul fun i j => .int (i * j)) (tC (.int 1013)) (tVar 1))) (tC (.int 5))) tNil))) { nx := fun _ H' => Q .non H', rt := Q } [some (.ref a), some (.int k), some (.int c), some (.int g)] H := by
        intro g g0
        have m0 := Int.emod_nonneg c (show (1000000007 : Int) ≠ 0 by decide)
        have m1 := Int.emod_lt_of_pos c (show (0 : Int) < 1000000007 by decide)
        refine ⟨_, rfl, _, rfl, _, _, rfl, rfl, (by show (0 : Int) < 1000000007; decide), _, _, rfl, rfl, .inr ⟨by decide, by decide⟩, _, rfl, _, _, rfl, rfl, .inl ⟨by decide, by decide⟩, _, _, rfl, rfl, _, _, rfl, rfl, (by show 2 ≤ sizeLine; decide), fun p hp => ?_⟩
        exact q p g _ hp g0 (by omega) (by omega)
      refine ⟨_, rfl, _, rfl, _, _, rfl, rfl, ⟨by decide, by decide, by decide⟩, _, _, rfl, rfl, _, rfl, ite2 (fun e => ?_) (fun e => ?_)⟩
      · refine ⟨_, rfl, _, rfl, fin2 _ ?_⟩
        split <;> omega
      · exact fin2 g g0
    refine ⟨_, rfl, _, rfl, _, _, rfl, .inl hS, _, _, rfl, rfl, _, rfl, ite2 (fun e => ?_) (fun e => ?_)⟩
    · have lt : k < ((ns.map V.int).length : Int) := of_decide_eq_true e
      obtain ⟨j, rfl⟩ := Int.eq_ofNat_of_zero_le k0
      have hj : j < ns.length := by
        rw [List.length_map] at lt
        omega
      have g : (ns.map V.int)[j]? = some (.int ns[j]) := by
        rw [List.getElem?_map, List.getElem?_eq_getElem hj]
        rfl
      refine ⟨_, rfl, _, rfl, _, _, _, _, rfl, rfl, hS, atI_nat g, ?_⟩
      exact fin _ 0 (Int.le_refl _)
    · exact fin 0 0 (Int.le_refl _)
def spDraw : Sp := fun vs H Q _ => ∃ (b : Addr) (m : Int), vs = [.ref b, .int m] ∧ BagAt H b ∧ 0 < m ∧ m < 1000000 ∧
  ∀ (d : Int) (H' : Hp), 0 ≤ d → d < m → Bx b H H' → Q (.int d) H'
theorem ok_draw {A : Ad} (T : Txt w K mg base A) : FnOk P w K mg base CX0 1 A.a_draw A.d_draw P_draw spDraw := by
  refine T.F_draw.ok sc_draw (fun vs H Q E h => ?_) (fun cdv Ar outer s H vs Q E hr h => ?_)
  · obtain ⟨b, m, rfl, _⟩ := h
    rfl
  · obtain ⟨b, m, rfl, ⟨g, s, hb, g0, s0, s1⟩, m0, m1, q⟩ := h
    refine ⟨_, (pss_cons (ps_if (pt_cmpR op_gt (pe_ix (r := rIxL K) ix_list (pv 0) pe_int (fun _ _ => rfl)) pe_int (nomark _))
      (pss_cons (ps_set (i := 2) sc_draw.nd rfl (Or.inl rfl) (pe_op op_mod (pe_ix (r := rIxL K) ix_list (pv 0) pe_int (fun _ _ => rfl)) (pv 1)))
      (pss_cons (ps_asg (pe_op op_fdiv (pe_ix (r := rIxL K) ix_list (pv 0) pe_int (fun _ _ => rfl)) (pv 1)) (pg_sub (pv 0) pe_int set_list))
      (pss_one (ps_ret (pv 2))))) pss_nil)
      (pss_cons (ps_asg (pe_op op_mod (pe_op op_add (pe_op op_mul (pe_ix (r := rIxL K) ix_list (pv 0) pe_int (fun _ _ => rfl)) pe_int) pe_int) pe_int) (pg_sub (pv 0) pe_int set_list))
      (pss_one (ps_ret (pe_op op_mod (pe_op op_mod (pe_op op_pow (pe_op op_fdiv (pe_ix (r := rIxL K) ix_list (pv 0) pe_int (fun _ _ => rfl)) pe_int) pe_int) pe_int) (pv 1)))))), ?_⟩
    refine ⟨_, rfl, _, _, _, _, rfl, rfl, SqL.of hb, atI_nat (j := 0) rfl, _, _, rfl, rfl, _, rfl, ite2 (fun e => ?_) (fun e => ?_)⟩
    · refine ⟨_, rfl, _, _, _, _, rfl, rfl, SqL.of hb, atI_nat (j := 0) rfl, _, rfl, _, _, rfl, rfl, m0, ?_⟩
      refine ⟨_, rfl, _, _, _, _, rfl, rfl, SqL.of hb, atI_nat (j := 0) rfl, _, rfl, _, _, rfl, rfl, ⟨m0, by omega⟩, _, rfl, _, _, _, _, rfl, rfl, hb, Evl.ixN_nat (j := 0) (by show 0 < 2; decide), ?_⟩
      refine ⟨_, rfl, ?_⟩
      exact q _ _ (Int.emod_nonneg _ (by omega)) (Int.emod_lt_of_pos _ m0) (Bx.drawn (Int.ediv_nonneg g0 (by omega)) s0 s1)
    · have t0 := Int.emod_nonneg (s * 69621 + 1234567) (show (2147483647 : Int) ≠ 0 by decide)
      have t1 := Int.emod_lt_of_pos (s * 69621 + 1234567) (show (0 : Int) < 2147483647 by decide)
      refine ⟨_, rfl, _, _, _, _, rfl, rfl, SqL.of hb, atI_nat (j := 1) rfl, _, _, rfl, rfl, .inr ⟨by decide, by decide⟩, _, _, rfl, rfl, _, _, rfl, rfl, (by show (0 : Int) < 2147483647; decide), _, rfl, _, _, _, _, rfl, rfl, hb, Evl.ixN_nat (j := 1) (by show 1 < 2; decide), ?_⟩
      refine ⟨_, rfl, _, _, _, _, rfl, rfl, SqL.of upd_same, atI_nat (j := 1) rfl, _, _, rfl, rfl, ⟨by decide, by decide⟩, _, _, rfl, rfl, ⟨by decide, by decide, ?_⟩, _, _, rfl, rfl, (by show (0 : Int) < 998244353; decide), _, rfl, _, _, rfl, rfl, m0, ?_⟩
      · omega
      · exact q _ _ (Int.emod_nonneg _ (by omega)) (Int.emod_lt_of_pos _ m0) (Bx.drawn g0 t0 (by omega))

/-! ### words by lengths -/
abbrev TT (p : Addr) : List (Addr × Str) := [(p, (("making_order" : Str) ++ ".<locals>.") ++ "<lambda>")]
theorem extN_of {H H' : Hp} (e : Same H H') : LamX.ExtN H H' := fun b o h _ => e b o h
theorem tabs_same {T : List (Addr × Str)} {H H' : Hp} (h : LamX.Tabs T H) (e : Same H H') : LamX.Tabs T H' := h.ext e
def spOrder (p : Addr) : Sp := fun vs H Q _ => ∃ (a : Addr) (ns : List Int), vs = [.ref a] ∧ LamX.Tabs (TT p) H ∧ H a = some (.lst (ns.map V.int)) ∧ ns.length ≤ 1000 ∧
  ∀ q H', LamX.ExtN H H' → LamX.Tabs (TT p) H' → H' q = none → Q (.ref q) (upd H' q (.lst ((orderOf ns).map fun (i : Nat) => V.int (i : Int))))
theorem ok_making_order {A : Ad} (T : Txt w K mg base A) : FnOk P w K mg base CX0 1 A.a_making_order A.d_making_order P_making_order (spOrder A.p_making_order) := by
  obtain ⟨oc, od, kV, doc, pm, an, ct, osl, lk, hcd⟩ := T.L_making_order
  obtain ⟨oc2, od2, kV2, doc2, pm2, an2, cdv2, ct2, osl2, efd, lk2, hcd2⟩ := T.F_making_order.ex
  have e2 := lk.symm.trans lk2
  have efd2 : PySem.W.fnOf "making_order" "making_order" (defArgs s_making_order) (defBody s_making_order) (defScope s_making_order) .none kV doc pm an (.ref A.k_making_order) ct = A.d_making_order := by
    injection e2 with e2
    injection e2 with _ _ e2 _
    injection e2
  rw [← efd2]
  refine fn_of lk hcd sc_making_order (fun vs H Q E h => ?_) (fun Ar outer s H vs Q E hr h => ?_)
  · obtain ⟨a, ns, rfl, _⟩ := h
    rfl
  · obtain ⟨a, ns, rfl, hT, ha, hl, q⟩ := h
    refine ⟨_, pss_one (ps_ret (pe_sortLam (T := TT A.p_making_order) (iL := 0) (by rfl) T.z_sorted (pa_cons (pe_callTy cr_range1 (by rfl) T.z_range (by decide +kernel) (pa_cons (pe_callB (r := fun xs H Q => ∃ p ys, xs = [.ref p] ∧ (SqL K H p ys ∨ SqT K H p ys) ∧ Q (.int ys.length) H) call_len_seq (by rfl) T.z_len PySem.boot_len (pa_cons (pv 0) pa_nil)) pa_nil)) pa_nil)
      T.TB_making_order rfl (List.mem_singleton.mpr rfl) (fun p hp _ => by rw [List.mem_singleton.mp hp]; rfl) hr rfl rfl rfl rfl rfl rfl rfl (by decide +kernel) rfl (fun _ _ _ _ _ _ => rfl))), ?_⟩
    refine ⟨_, rfl, a, _, rfl, .inl (SqL.of ha), _, rfl, fun r hr2 => ?_⟩
    have s1 : Same H (upd H r (.rng 0 ((ns.map V.int).length : Int))) := same_new hr2
    refine ⟨r, a, ns, rfl, by rw [upd_same, List.length_map], tabs_same hT s1, rfl, s1 _ _ ha, hl, fun p H2 eN T2 fr => ?_⟩
    exact q p H2 (fun b o hb n => eN b o (s1 _ _ hb) n) T2 fr
theorem cutS_to (l : List Nat) (b : Nat) (hb : b ≤ l.length) : cutS (sOf l) none (some (b : Int)) = sOf (l.take b) := by
  unfold cutS
  rw [HT.sIx_nat, sOf_len, sOf_list, Nat.min_eq_left hb, HT.sIx_none]
  show sOf ((l.drop 0).take (b - 0)) = _
  rw [List.drop_zero, Nat.sub_zero]
theorem rfind_one {w : List Nat} {i : Nat} (h : lastOne w = some i) : Txt.rfind (sOf w) (Str.ofString "1") = (i : Int) := by
  have at_iff : ∀ j, StrLaws.At (sOf w) ⟨#[49]⟩ (sOf w).length j ↔ w[j]? = some 49 := fun j => by
    have := StrLaws.subAt_one (sOf w) 49 j
    rw [sOf_list] at this
    exact this
  have hs := lastOne_spec w
  rcases hs with ⟨e, _⟩ | ⟨i2, e, h1, h2⟩
  · rw [e] at h
    cases h
  · rw [e] at h
    cases h
    show (match Builtin.Str.lastOccurrence (sOf w) ⟨#[49]⟩ 0 (sOf w).length with | some i => (i : Int) | none => -1) = (i : Int)
    rcases StrLaws.last_spec (sOf w) ⟨#[49]⟩ with ⟨_, n⟩ | ⟨j, ej, a1, a2⟩
    · exact absurd ((at_iff i).mpr h1) (n i)
    · rw [ej]
      have h3 := (at_iff j).mp a1
      have : i = j := by
        rcases Nat.lt_trichotomy i j with z | z | z
        · exact absurd h3 (h2 j z)
        · exact z
        · exact absurd ((at_iff i).mpr h1) (a2 i z)
      rw [this]
def spLess : Sp := fun vs H Q _ => ∃ (w : List Nat) (i : Nat), vs = [.str (sOf w)] ∧ lastOne w = some i ∧ w.length ≤ 1000 ∧ Q (.str (sOf (lessW w))) H
theorem lastOne_lt {w : List Nat} {i : Nat} (h : lastOne w = some i) : i < w.length := by
  rcases lastOne_spec w with ⟨e, _⟩ | ⟨i2, e, h1, _⟩
  · rw [e] at h
    cases h
  · rw [e] at h
    cases h
    exact (List.getElem?_eq_some_iff.mp h1).1
theorem lessW_len {w : List Nat} {i : Nat} (h : lastOne w = some i) : (lessW w).length = w.length := by
  have := lastOne_lt h
  unfold lessW
  rw [h]
  show (w.take i ++ 48 :: List.replicate (w.length - i - 1) 49).length = w.length
  rw [List.length_append, List.length_cons, List.length_replicate, List.length_take]
  omega
theorem ok_one_less {A : Ad} (T : Txt w K mg base A) : FnOk P w K mg base CX0 1 A.a_one_less A.d_one_less P_one_less spLess := by
  refine T.F_one_less.ok sc_one_less (fun vs H Q E h => ?_) (fun cdv Ar outer s H vs Q E hr h => ?_)
  · obtain ⟨w, i, rfl, _⟩ := h
    rfl
  · obtain ⟨wd, i, rfl, hi, lw, q⟩ := h
    refine ⟨_, (pss_cons (ps_set (i := 1) sc_one_less.nd rfl (Or.inl rfl) (pe_bm PySem.F.plainAttrs_str PySem.F.slot_str_rfind PySem.F.type_str_rfind mt_rfind (pv 0) (pa_cons pe_str pa_nil)))
      (pss_cons (ps_if (pt_cmpR op_lt (pv 1) pe_int (nomark _))
      (pss_one ps_never) pss_nil)
      (pss_one (ps_ret (pe_op op_add_str (pe_op op_add_str (pe_slice sl_str (pv 0) po_none (po_some (pv 1))) pe_str) (pe_op op_mul_str pe_str (pe_op op_sub (pe_op op_sub (pe_callB call_len_str (by rfl) T.z_len PySem.boot_len (pa_cons (pv 0) pa_nil)) (pv 1)) pe_int))))))), ?_⟩
    have hl : (sOf wd).length ≤ sizeLine := by
      rw [sOf_len]
      exact sz (by omega)
    have li := lastOne_lt hi
    have er := rfind_one hi
    refine ⟨_, rfl, rfl, _, _, rfl, rfl, ?_⟩
    rw [er]
    refine ⟨_, rfl, _, _, rfl, rfl, _, rfl, ite2 (fun e => ?_) (fun e => ?_)⟩
    · have := of_decide_eq_true e
      omega
    · refine ⟨_, rfl, _, rfl, _, rfl, _, rfl, hl, _, _, rfl, rfl, ?_, _, rfl, _, rfl, hl, _, rfl, _, _, rfl, rfl, _, _, rfl, rfl, 49, _, rfl, rfl, ⟨by rw [sOf_len]; omega, by rw [sOf_len]; omega⟩, _, _, rfl, rfl, ?_, ?_⟩
      · rw [cutS_to wd i (by omega), sOf_len, List.length_take]
        exact sz (by show min i wd.length + 1 ≤ 100000; omega)
      · rw [cutS_to wd i (by omega), show (Str.ofString "0") = sOf [48] from rfl, sOf_app, sOf_len, sOf_len, List.length_append, List.length_take, List.length_replicate, sOf_len]
        exact sz (by show min i wd.length + 1 + _ ≤ 100000; omega)
      · rw [cutS_to wd i (by omega), show (Str.ofString "0") = sOf [48] from rfl, sOf_app, sOf_app]
        have e3 : wd.take i ++ [48] ++ List.replicate (((sOf wd).length : Int) - (i : Int) - 1).toNat 49 = lessW wd := by
          unfold lessW
          rw [hi, sOf_len, List.append_assoc]
          show wd.take i ++ 48 :: List.replicate _ 49 = wd.take i ++ 48 :: List.replicate _ 49
          rw [show ((wd.length : Int) - (i : Int) - 1).toNat = wd.length - i - 1 by omega]
        rw [e3]
        exact q
def nvs (ns : List Nat) : List V := (iv ns).map V.int
theorem nvs_at {ns : List Nat} {p : Nat} (h : p < ns.length) : (nvs ns)[p]? = some (.int ((ns.getD p 0 : Nat) : Int)) := by
  unfold nvs iv
  rw [List.map_map, List.getElem?_map, List.getD_eq_getElem?_getD, List.getElem?_eq_getElem h]
  rfl
theorem rep_nil (n : Nat) : (List.replicate n [V.str (Str.ofString "")]).flatten = (List.replicate n ([] : List Nat)).map sV := by
  induction n with
  | zero => rfl
  | succ k ih =>
    rw [List.replicate_succ, List.flatten_cons, ih, List.replicate_succ]
    rfl
def ahV (o : Option (List Nat)) : V := match o with
  | none => .non
  | some w => .str (sOf w)
theorem tabs_but {T : List (Addr × Str)} {H H' : Hp} {q : Addr} {xs : List V} (h : LamX.Tabs T H) (hq : H q = some (.lst xs)) (e : ∀ b o, b ≠ q → H b = some o → H' b = some o) : LamX.Tabs T H' := fun p hp => by
  obtain ⟨ps, h1, h2, h3⟩ := h p hp
  refine ⟨ps, e _ _ (fun z => ?_) h1, h2, fun pos cv hc => ?_⟩
  · rw [z, hq] at h1
    cases h1
  · obtain ⟨c, e1, e2⟩ := h3 pos cv hc
    refine ⟨c, e1, e _ _ (fun z => ?_) e2⟩
    rw [z, hq] at e2
    unfold LamX.CodeO at e2
    cases e2
def spWords (p : Addr) : Sp := fun vs H Q _ => ∃ (a : Addr) (ns : List Nat), vs = [.ref a] ∧ LamX.Tabs (TT p) H ∧ H a = some (.lst (nvs ns)) ∧ ns.length ≤ 100 ∧ (∀ n ∈ ns, n ≤ 12) ∧ okW ns (buckets (fun i => (iv ns).getD i 0) ns.length) (startW ns) = true ∧
  ∀ q H', LamX.ExtN H H' → LamX.Tabs (TT p) H' → H q = none → H' q = some (.lst ((wordsOf ns).map sV)) → Q (.ref q) H'
theorem ok_words_by {A : Ad} (T : Txt w K mg base A) : FnOk P w K mg base CX0 2 A.a_words_by A.d_words_by P_words_by (spWords A.p_making_order) := by
  have G_making_order := ok_making_order (P := P) (w := w) (base := base) T
  have G_one_less := ok_one_less (P := P) (w := w) (base := base) T
  refine T.F_words_by.ok sc_words_by (fun vs H Q E h => ?_) (fun cdv Ar outer s H vs Q E hr h => ?_)
  · obtain ⟨a, ns, rfl, _⟩ := h
    rfl
  · obtain ⟨a, ns, rfl, hT, ha, ln, hn, ok, qq⟩ := h
    refine ⟨_, (pss_cons (ps_set (i := 1) sc_words_by.nd rfl (Or.inl rfl) (pe_op op_rep (pe_lst (pa_cons pe_str pa_nil)) (pe_callB (r := fun xs H Q => ∃ p ys, xs = [.ref p] ∧ (SqL K H p ys ∨ SqT K H p ys) ∧ Q (.int ys.length) H) call_len_seq (by rfl) T.z_len PySem.boot_len (pa_cons (pv 0) pa_nil))))
      (pss_cons (ps_set (i := 2) sc_words_by.nd rfl (Or.inl rfl) pe_non)
      (pss_cons (ps_for PassesOwn.never rfl (pi_list (pe_call G_making_order (hr.mono (by decide)) (by rfl) T.g_making_order T.F_making_order.kp T.b_making_order .nil pass0 (pa_cons (pv 0) pa_nil))) (pg_name (i := 3) sc_words_by.nd rfl (Or.inl rfl))
      (pss_cons (ps_set (i := 4) sc_words_by.nd rfl (Or.inl rfl) (pe_ifExp (pt_cmpR op_isN (pv 2) pe_non (nomark _)) pe_str (pe_call G_one_less (hr.mono (by decide)) (by rfl) T.g_one_less T.F_one_less.kp T.b_one_less .nil pass0 (pa_cons (pv 2) pa_nil))))
      (pss_cons (ps_set (i := 2) sc_words_by.nd rfl (Or.inl rfl) (pe_bm PySem.F.plainAttrs_str PySem.F.slot_str_ljust PySem.F.type_str_ljust mt_ljustF (pv 4) (pa_cons (pe_ix (r := rIxL K) ix_list (pv 0) (pv 3) (fun _ _ => rfl)) (pa_cons pe_str pa_nil))))
      (pss_one (ps_asg (pv 2) (pg_sub (pv 1) (pv 3) set_list))))))
      (pss_one (ps_ret (pv 1)))))), ?_⟩
    refine ⟨(by show 1 ≤ sizeLine; decide), fun p1 hp1 => ?_⟩
    have s1 : Same H (upd H p1 (.lst [.str (Str.ofString "")])) := same_new hp1
    have nl : (nvs ns).length = ns.length := by unfold nvs; rw [List.length_map, iv_len]
    refine ⟨_, rfl, a, _, rfl, .inl (SqL.of (s1 _ _ ha)), _, _, _, rfl, rfl, upd_same, by omega, by omega, by rw [nl]; show 1 * _ ≤ sizeLine; exact sz (by omega), fun q hq => ?_⟩
    have s2 := s1.trans (same_new (o := .lst (List.replicate ((nvs ns).length : Int).toNat [V.str (Str.ofString "")]).flatten) hq)
    refine ⟨_, rfl, a, iv ns, rfl, tabs_same hT s2, s2 _ _ ha, by rw [iv_len]; omega, fun o H3 eN T3 fr => ?_⟩
    have hq3 : H3 q = some (.lst ((startW ns).1.map sV)) := by
      have := eN q _ upd_same (fun ps z => by cases z)
      rw [this]
      show some (HO.lst (List.replicate ((nvs ns).length : Int).toNat [V.str (Str.ofString "")]).flatten) = some (HO.lst ((List.replicate ns.length ([] : List Nat)).map sV))
      rw [rep_nil, nl]
      rfl
    have fq : H q = none := by
      cases z : H q with
      | none => rfl
      | some u =>
        rw [s1 _ _ z] at hq
        cases hq
    have nqo : q ≠ o := ne_of_none hq3 fr
    rw [order_iv hn]
    generalize hord : buckets (fun i => (iv ns).getD i 0) ns.length = ord at *
    have ha3 : H3 a = some (.lst (nvs ns)) := eN a _ (s2 _ _ ha) (fun ps z => by cases z)
    have nao : a ≠ o := ne_of_none ha3 fr
    have naq : a ≠ q := ne_of_none ha fq
    refine ⟨o, rfl, ⟨_, SqL.of upd_same⟩, for_list (K := K) (a := o) (xs := ord.map fun (i : Nat) => V.int (i : Int)) (fun i σ H' => ∃ y3 y4, σ = [some (.ref a), some (.ref q), some (ahV ((ord.take i).foldl (stepW ns) (startW ns)).2), y3, y4] ∧ H' q = some (.lst (((ord.take i).foldl (stepW ns) (startW ns)).1.map sV)) ∧ ∀ b u, b ≠ q → upd H3 o (.lst (ord.map fun (i : Nat) => V.int (i : Int))) b = some u → H' b = some u)
      ⟨none, none, rfl, by rw [upd_ne nqo]; exact hq3, fun b u _ h => h⟩ (fun i σ H' _ ⟨_, _, _, _, ke⟩ => SqL.of (ke o _ nqo.symm upd_same)) ?_ ?_⟩
    · rintro i x σ H' hx ⟨y3, y4, rfl, hq', ke⟩
      rw [List.getElem?_map] at hx
      obtain ⟨p, hp, rfl⟩ : ∃ p, ord[i]? = some p ∧ V.int (p : Int) = x := by
        cases e : ord[i]? with
        | none =>
          rw [e] at hx
          cases hx
        | some p =>
          rw [e] at hx
          exact ⟨p, rfl, Option.some.inj hx⟩
      have pn : p < ns.length := by
        have := List.mem_of_getElem? hp
        rw [← hord] at this
        exact mem_buckets this
      have lst := lenW_fold hn (ord.take i) _ (lenW_start ns)
      have ok1 := okW_at ord (startW ns) i p hp ok
      have fst : (ord.take (i + 1)).foldl (stepW ns) (startW ns) = stepW ns ((ord.take i).foldl (stepW ns) (startW ns)) p := by
        rw [take_more ord i p hp, List.foldl_append]
        rfl
      have wl : ((ord.take i).foldl (stepW ns) (startW ns)).1.length = ns.length := by
        rw [words_len]
        exact List.length_replicate
      have ha' : H' a = some (.lst (nvs ns)) := ke a _ naq (by rw [upd_ne nao]; exact ha3)
      have atl : atI (nvs ns) (p : Int) = some (.int ((ns.getD p 0 : Nat) : Int)) := atI_nat (nvs_at pn)
      have hg : ns.getD p 0 ≤ 12 := by
        rw [List.getD_eq_getElem?_getD, List.getElem?_eq_getElem pn]
        exact hn _ (List.getElem_mem pn)
      generalize hst : (ord.take i).foldl (stepW ns) (startW ns) = st at *
      cases h2 : st.2 with
      | none =>
        have e1 : st.1.set p ([] ++ List.replicate (((ns.getD p 0 : Nat) : Int).toNat - ([] : List Nat).length) 49) = (stepW ns st p).1 := by
          unfold stepW
          rw [h2]
          rfl
        have e2 : (stepW ns st p).2 = some ([] ++ List.replicate (ns.getD p 0 - ([] : List Nat).length) 49) := by
          unfold stepW
          rw [h2]
        refine ⟨_, rfl, rfl, _, rfl, ?_⟩
        refine ⟨_, rfl, rfl, _, rfl, _, rfl, _, _, _, .int ((ns.getD p 0 : Nat) : Int), rfl, rfl, SqL.of ha', atl, ([] : List Nat), _, 49, rfl, rfl, ⟨by omega, by omega⟩, ?_⟩
        refine ⟨_, rfl, _, rfl, _, rfl, q, _, _, p, rfl, rfl, hq', Evl.ixN_nat (by rw [List.length_map, wl]; omega), ?_⟩
        refine ⟨some (.int (p : Int)), some (.str (sOf ([] : List Nat))), ?_, ?_, fun b u nb hb => by rw [upd_ne nb]; exact ke b u nb hb⟩
        · rw [fst, e2]
          rfl
        · rw [fst, upd_same]
          show some (HO.lst ((st.1.map sV).set p (sV (([] : List Nat) ++ List.replicate (((ns.getD p 0 : Nat) : Int).toNat - (([] : List Nat)).length) 49)))) = _
          rw [← List.map_set, e1]
      | some wd =>
        obtain ⟨j, hj⟩ := ok1 wd h2
        have lw := lst wd h2
        have ll := lessW_len hj
        have e1 : st.1.set p (lessW wd ++ List.replicate (((ns.getD p 0 : Nat) : Int).toNat - (lessW wd).length) 49) = (stepW ns st p).1 := by
          unfold stepW
          rw [h2]
          rfl
        have e2 : (stepW ns st p).2 = some (lessW wd ++ List.replicate (ns.getD p 0 - (lessW wd).length) 49) := by
          unfold stepW
          rw [h2]
        refine ⟨_, rfl, rfl, _, rfl, _, rfl, wd, j, rfl, hj, by omega, ?_⟩
        refine ⟨_, rfl, rfl, _, rfl, _, rfl, _, _, _, .int ((ns.getD p 0 : Nat) : Int), rfl, rfl, SqL.of ha', atl, (lessW wd), _, 49, rfl, rfl, ⟨by omega, by omega⟩, ?_⟩
        refine ⟨_, rfl, _, rfl, _, rfl, q, _, _, p, rfl, rfl, hq', Evl.ixN_nat (by rw [List.length_map, wl]; omega), ?_⟩
        refine ⟨some (.int (p : Int)), some (.str (sOf (lessW wd))), ?_, ?_, fun b u nb hb => by rw [upd_ne nb]; exact ke b u nb hb⟩
        · rw [fst, e2]
          rfl
        · rw [fst, upd_same]
          show some (HO.lst ((st.1.map sV).set p (sV ((lessW wd) ++ List.replicate (((ns.getD p 0 : Nat) : Int).toNat - ((lessW wd)).length) 49)))) = _
          rw [← List.map_set, e1]
    · rintro σ H' ⟨y3, y4, rfl, hq', ke⟩
      rw [List.length_map, List.take_length] at hq'
      have hw : (ord.foldl (stepW ns) (startW ns)).1 = wordsOf ns := by
        unfold Fp.wordsOf
        rw [hord]
      rw [hw] at hq'
      refine ⟨_, rfl, qq q H' (fun b u hb nt => ?_) ?_ fq hq'⟩
      · have nbq : b ≠ q := ne_of_none hb fq
        have h3 := eN b u (s2 _ _ hb) nt
        exact ke b u nbq (by rw [upd_ne (ne_of_none h3 fr)]; exact h3)
      · refine tabs_but (q := q) (H := upd H3 o (.lst (ord.map fun (i : Nat) => V.int (i : Int)))) (tabs_same T3 (same_new fr)) (by rw [upd_ne nqo]; exact hq3) ke

def spLawLess : Sp := fun vs H Q _ => ∃ w : List Nat, vs = [.str (sOf w)] ∧ w.length ≤ 20 ∧ Q (ahV (lawLess w)) H
theorem bits_at {n : Nat} : atI (Str.ofString "01").cps.toList (((n : Nat) : Int) % 2) = some (48 + n % 2) := by
  have : n % 2 = 0 ∨ n % 2 = 1 := by omega
  rcases this with h | h
  · rw [h, show ((n : Nat) : Int) % 2 = 0 by omega]
    rfl
  · rw [h, show ((n : Nat) : Int) % 2 = 1 by omega]
    rfl
theorem one_eq (c : Nat) : decide (V.str ⟨#[c]⟩ = V.str (Str.ofString "1")) = decide (c = 49) := by
  apply decide_eq_decide.mpr
  exact ⟨fun h => by
    have h2 : sOf [c] = sOf [49] := V.str.inj h
    have := sOf_inj h2
    simp_all, fun h => by rw [h]; rfl⟩
theorem ok_less {A : Ad} (T : Txt w K mg base A) : FnOk P w K mg base CX0 1 A.a_less A.d_less P_less spLawLess := by
  refine T.F_less.ok sc_less (fun vs H Q E h => ?_) (fun cdv Ar outer s H vs Q E hr h => ?_)
  · obtain ⟨wd, rfl, _⟩ := h
    rfl
  · obtain ⟨wd, rfl, lw, q⟩ := h
    refine ⟨_, (pss_cons (ps_set (i := 1) sc_less.nd rfl (Or.inl rfl) pe_int)
      (pss_cons (ps_for PassesOwn.never rfl (pi_str (pv 0)) (pg_name (i := 2) sc_less.nd rfl (Or.inl rfl))
      (pss_one (ps_set (i := 1) sc_less.nd rfl (Or.inl rfl) (pe_op op_add (pe_op op_mul pe_int (pv 1)) (pe_callTy call_int1 (by rfl) T.z_int (by decide +kernel) (pa_cons (pe_cmpR op_eq (pv 2) pe_str (nomark _)) pa_nil))))))
      (pss_cons (ps_if (pt_cmpR op_eq (pv 1) pe_int (nomark _))
      (pss_one (ps_ret pe_non)) pss_nil)
      (pss_cons (ps_set (i := 1) sc_less.nd rfl (Or.inl rfl) (pe_op op_sub (pv 1) pe_int))
      (pss_cons (ps_set (i := 3) sc_less.nd rfl (Or.inl rfl) pe_str)
      (pss_cons (ps_for PassesOwn.never rfl (pi_str (pv 0)) (pg_name (i := 2) sc_less.nd rfl (Or.inl rfl))
      (pss_cons (ps_set (i := 3) sc_less.nd rfl (Or.inl rfl) (pe_op op_add_str (pe_ix ix_str pe_str (pe_op op_mod (pv 1) pe_int) (fun _ _ => rfl)) (pv 3)))
      (pss_one (ps_set (i := 1) sc_less.nd rfl (Or.inl rfl) (pe_op op_fdiv (pv 1) pe_int)))))
      (pss_one (ps_ret (pv 3))))))))), ?_⟩
    have sz1 : (sOf wd).cps.size = wd.length := by simp [sOf]
    refine ⟨_, rfl, _, rfl, for_it (walk_str (z := sOf wd)) (fun i σ H' => ∃ y2, σ = [some (.str (sOf wd)), some (.int ((bitsVal (wd.take i) : Nat) : Int)), y2, none] ∧ H' = H) ⟨none, rfl, rfl⟩ (fun _ _ _ _ _ => trivial) ?_ ?_⟩
    · rintro i x σ H1 H2 hi ⟨y2, rfl, rfl⟩ ⟨rfl, c, hc, rfl⟩
      have hc' : wd[i]? = some c := by simpa [sOf] using hc
      refine ⟨_, rfl, _, _, rfl, rfl, .inl ⟨by decide, by decide⟩, _, rfl, rfl, .inr ⟨_, rfl, _, _, rfl, rfl, ?_⟩⟩
      refine ⟨some (.str ⟨#[c]⟩), ?_, rfl⟩
      rw [one_eq, take_more wd i c hc']
      have e : bitsVal (wd.take i ++ [c]) = 2 * bitsVal (wd.take i) + if c = 49 then 1 else 0 := by
        unfold bitsVal
        rw [List.foldl_append]
        rfl
      rw [e]
      by_cases h : c = 49
      · rw [if_pos h, decide_eq_true h]
        rfl
      · rw [if_neg h, decide_eq_false h]
        rfl
    · rintro σ H1 ⟨y2, rfl, rfl⟩
      rw [sz1, List.take_length]
      refine ⟨_, rfl, rfl, _, rfl, ite2 (fun e => ?_) (fun e => ?_)⟩
      · have e0 : bitsVal wd = 0 := by
          have := V.int.inj (of_decide_eq_true e)
          omega
        unfold lawLess at q
        rw [if_pos e0] at q
        exact q
      · have e0 : ¬ bitsVal wd = 0 := fun z => e (decide_eq_true (by rw [z]; rfl))
        unfold lawLess at q
        rw [if_neg e0] at q
        refine ⟨_, rfl, _, _, rfl, rfl, ?_⟩
        refine ⟨_, rfl, _, rfl, for_it (walk_str (z := sOf wd)) (fun i σ H' => ∃ (n : Nat) (acc : List Nat) (y2 : Option V), σ = [some (.str (sOf wd)), some (.int (n : Int)), y2, some (.str (sOf acc))] ∧ H' = H1 ∧ bitsOf (wd.length - i) n acc = bitsOf wd.length (bitsVal wd - 1) [] ∧ acc.length = i) ⟨bitsVal wd - 1, [], y2, ?_, rfl, rfl, rfl⟩ (fun _ _ _ _ _ => trivial) ?_ ?_⟩
        · rw [show ((bitsVal wd - 1 : Nat) : Int) = ((bitsVal wd : Nat) : Int) - 1 by omega]
          rfl
        · rintro i x σ H2 H3 hi ⟨n, acc, y3, rfl, rfl, hb, la⟩ ⟨rfl, c, hc, rfl⟩
          have hi2 : i < wd.length := by rw [← sz1]; exact hi
          refine ⟨_, rfl, _, _, rfl, rfl, (by show (0 : Int) < 2; decide), _, _, _, rfl, rfl, (by decide +kernel), bits_at (n := n), _, rfl, _, _, rfl, rfl, ?_, ?_⟩
          · show 1 + (sOf acc).length ≤ sizeLine
            rw [sOf_len]
            exact sz (by omega)
          · refine ⟨_, rfl, _, _, rfl, rfl, ⟨by decide, by decide⟩, ?_⟩
            refine ⟨n / 2, (48 + n % 2) :: acc, some (.str ⟨#[c]⟩), ?_, rfl, ?_, ?_⟩
            · rw [show (⟨#[48 + n % 2]⟩ : Str) ++ sOf acc = sOf ((48 + n % 2) :: acc) from sOf_app [48 + n % 2] acc, show ((n / 2 : Nat) : Int) = ((n : Nat) : Int) / 2 by omega]
              rfl
            · rw [← hb, show wd.length - i = (wd.length - (i + 1)) + 1 by omega]
              rfl
            · rw [List.length_cons, la]
        · rintro σ H2 ⟨n, acc, y3, rfl, rfl, hb, la⟩
          rw [sz1, Nat.sub_self] at hb
          refine ⟨_, rfl, ?_⟩
          have : acc = bitsOf wd.length (bitsVal wd - 1) [] := hb
          rw [this]
          exact q
def spLawWords : Sp := fun vs H Q _ => ∃ (a : Addr) (ns : List Nat), vs = [.ref a] ∧ H a = some (.lst (nvs ns)) ∧ ns.length ≤ 100 ∧ (∀ n ∈ ns, n ≤ 12) ∧
  (∀ H', Same H H' → lawW ns = none → Q .non H') ∧ ∀ q W l H', lawW ns = some (W, l) → H q = none → Same H H' → H' q = some (.lst (W.map sV)) → Q (.ref q) H'
theorem ok_words {A : Ad} (T : Txt w K mg base A) : FnOk P w K mg base CX0 2 A.a_words A.d_words P_words spLawWords := by
  have G_less := ok_less (P := P) (w := w) (base := base) T
  refine T.F_words.ok sc_words (fun vs H Q E h => ?_) (fun cdv Ar outer s H vs Q E hr h => ?_)
  · obtain ⟨a, ns, rfl, _⟩ := h
    rfl
  · obtain ⟨a, ns, rfl, ha, ln, hn, q0, qq⟩ := h
    refine ⟨_, (pss_cons (ps_set (i := 1) sc_words.nd rfl (Or.inl rfl) (pe_op op_rep (pe_lst (pa_cons pe_str pa_nil)) (pe_callB (r := fun xs H Q => ∃ p ys, xs = [.ref p] ∧ (SqL K H p ys ∨ SqT K H p ys) ∧ Q (.int ys.length) H) call_len_seq (by rfl) T.z_len PySem.boot_len (pa_cons (pv 0) pa_nil))))
      (pss_cons (ps_set (i := 2) sc_words.nd rfl (Or.inl rfl) pe_str)
      (pss_cons (ps_for PassesOwn.never rfl (pi_range2 (by rfl) T.z_range (pa_cons pe_int (pa_cons pe_int pa_nil))) (pg_name (i := 3) sc_words.nd rfl (Or.inl rfl))
      (pss_one (ps_for PassesOwn.never rfl (pi_range1 (by rfl) T.z_range (pa_cons (pe_callB (r := fun xs H Q => ∃ p ys, xs = [.ref p] ∧ (SqL K H p ys ∨ SqT K H p ys) ∧ Q (.int ys.length) H) call_len_seq (by rfl) T.z_len PySem.boot_len (pa_cons (pv 0) pa_nil)) pa_nil)) (pg_name (i := 4) sc_words.nd rfl (Or.inl rfl))
      (pss_one (ps_if (pt_cmpR op_eq (pe_ix (r := rIxL K) ix_list (pv 0) (pv 4) (fun _ _ => rfl)) (pv 3) (nomark _))
      (pss_cons (ps_if (pt_cmpR op_ne (pv 2) pe_str (nomark _))
      (pss_one (ps_set (i := 2) sc_words.nd rfl (Or.inl rfl) (pe_call G_less (hr.mono (by decide)) (by rfl) T.g_less T.F_less.kp T.b_less .nil pass0 (pa_cons (pv 2) pa_nil)))) pss_nil)
      (pss_cons (ps_if (pt_cmpR op_isN (pv 2) pe_non (nomark _))
      (pss_one (ps_ret pe_non)) pss_nil)
      (pss_cons (ps_set (i := 2) sc_words.nd rfl (Or.inl rfl) (pe_op op_add_str (pv 2) (pe_op op_mul_str pe_str (pe_op op_sub (pv 3) (pe_callB call_len_str (by rfl) T.z_len PySem.boot_len (pa_cons (pv 2) pa_nil))))))
      (pss_one (ps_asg (pv 2) (pg_sub (pv 1) (pv 4) set_list)))))) pss_nil)))))
      (pss_one (ps_ret (pv 1)))))), ?_⟩
    have nl : (nvs ns).length = ns.length := by unfold nvs; rw [List.length_map, iv_len]
    refine ⟨(by show 1 ≤ sizeLine; decide), fun p1 hp1 => ?_⟩
    have s1 : Same H (upd H p1 (.lst [.str (Str.ofString "")])) := same_new hp1
    refine ⟨_, rfl, a, _, rfl, .inl (SqL.of (s1 _ _ ha)), _, _, _, rfl, rfl, upd_same, by omega, by omega, by rw [nl]; show 1 * _ ≤ sizeLine; exact sz (by omega), fun q hq => ?_⟩
    have s2 := s1.trans (same_new (o := .lst (List.replicate ((nvs ns).length : Int).toNat [V.str (Str.ofString "")]).flatten) hq)
    have fq : H q = none := by
      cases z : H q with
      | none => rfl
      | some u =>
        rw [s1 _ _ z] at hq
        cases hq
    have naq : a ≠ q := ne_of_none ha fq
    have sameOf : ∀ {H' : Hp}, (∀ b u, b ≠ q → upd H p1 (.lst [.str (Str.ofString "")]) b = some u → H' b = some u) → Same H H' := fun ke b u hb => ke b u (ne_of_none hb fq) (s1 _ _ hb)
    refine ⟨_, _, rfl, ⟨by decide, by decide, by decide, by decide⟩, for_range (lo := 1) (n := 12) (fun i σ H' => ∃ (f : List (List Nat)) (l : List Nat) (y3 y4 : Option V), σ = [some (.ref a), some (.ref q), some (.str (sOf l)), y3, y4] ∧ (ls12.take i).foldl (rowL ns) (some (List.replicate ns.length [], [])) = some (f, l) ∧ H' q = some (.lst (f.map sV)) ∧ l.length ≤ 12 ∧ f.length = ns.length ∧ ∀ b u, b ≠ q → upd H p1 (.lst [.str (Str.ofString "")]) b = some u → H' b = some u)
      ⟨List.replicate ns.length [], [], none, none, rfl, rfl, ?_, by decide, List.length_replicate, fun b u nb hb => by rw [upd_ne nb]; exact hb⟩ ?_ ?_⟩
    · rw [upd_same, rep_nil, nl]
      rfl
    · rintro i σ H1 hi ⟨f, l, y3, y4, rfl, e1, hq1, ll, lf, ke⟩
      have ha1 : H1 a = some (.lst (nvs ns)) := ke a _ naq (s1 _ _ ha)
      have row1 : (ls12.take (i + 1)).foldl (rowL ns) (some (List.replicate ns.length [], [])) = (List.range ns.length).foldl (stepL ns (i + 1)) (some (f, l)) := by
        rw [take_more ls12 i (i + 1) (ls12_at hi), List.foldl_append, e1]
        rfl
      generalize hFL : (some (f, l) : Option (List (List Nat) × List Nat)) = FL at row1 e1
      refine ⟨_, rfl, a, _, rfl, .inl (SqL.of ha1), _, rfl, by rw [nl]; omega, by rw [nl]; omega, ?_⟩
      rw [show ((nvs ns).length : Int).toNat = ns.length by rw [nl]; rfl]
      refine for_range (lo := 0) (n := ns.length) (fun j σ H' => ∃ (f : List (List Nat)) (l2 : List Nat) (y4 : Option V), σ = [some (.ref a), some (.ref q), some (.str (sOf l2)), some (.int (1 + (i : Int))), y4] ∧ ((List.range ns.length).take j).foldl (stepL ns (i + 1)) FL = some (f, l2) ∧ H' q = some (.lst (f.map sV)) ∧ l2.length ≤ 12 ∧ f.length = ns.length ∧ ∀ b u, b ≠ q → upd H p1 (.lst [.str (Str.ofString "")]) b = some u → H' b = some u)
        ⟨f, l, y4, rfl, hFL.symm, hq1, ll, lf, ke⟩ ?_ ?_
      · rintro j σ H2 hj ⟨f, l, y4, rfl, e2, hq2, ll, lf, ke2⟩
        have ha2 : H2 a = some (.lst (nvs ns)) := ke2 a _ naq (s1 _ _ ha)
        have fst2 : ((List.range ns.length).take (j + 1)).foldl (stepL ns (i + 1)) FL = stepL ns (i + 1) (((List.range ns.length).take j).foldl (stepL ns (i + 1)) FL) j := by
          rw [take_more (List.range ns.length) j j (List.getElem?_range hj), List.foldl_append]
          rfl
        refine ⟨_, rfl, _, rfl, _, _, _, .int ((ns.getD j 0 : Nat) : Int), rfl, rfl, SqL.of ha2, (by rw [Int.zero_add]; exact atI_nat (nvs_at hj)), _, rfl, rfl, _, rfl, ite2 (fun e => ?_) (fun e => ?_)⟩
        · have en : ns.getD j 0 = i + 1 := by
            have := V.int.inj (of_decide_eq_true e)
            omega
          refine ⟨_, rfl, rfl, _, rfl, ?_⟩
          by_cases hl0 : l = []
          · subst hl0
            rw [show (!decide (V.str (sOf []) = V.str (Str.ofString ""))) = false by rw [decide_eq_true (show V.str (sOf []) = V.str (Str.ofString "") from rfl)]; rfl]
            have l0 : ([] : List Nat).length = 0 := rfl
            refine ⟨_, rfl, rfl, _, rfl, ?_⟩
            refine ⟨_, rfl, _, rfl, _, rfl, _, rfl, (by rw [sOf_len]; exact sz (by omega)), _, _, rfl, rfl, 49, _, rfl, rfl, ⟨by rw [sOf_len]; omega, by rw [sOf_len]; omega⟩, _, _, rfl, rfl, ?_, ?_⟩
            · rw [sOf_len, sOf_len, List.length_replicate]
              exact sz (by omega)
            refine ⟨_, rfl, _, rfl, _, rfl, q, _, _, j, rfl, rfl, hq2, (by rw [Int.zero_add]; exact Evl.ixN_nat (by rw [List.length_map]; omega)), ?_⟩
            have ec : sOf ([] : List Nat) ++ sOf (List.replicate ((1 + (i : Int)) - ((sOf ([] : List Nat)).length : Int)).toNat 49) = sOf (([] : List Nat) ++ List.replicate (i + 1 - (([] : List Nat)).length) 49) := by
              rw [sOf_app, sOf_len, show ((1 + (i : Int)) - ((([] : List Nat)).length : Int)).toNat = i + 1 - (([] : List Nat)).length by omega]
            refine ⟨f.set j (([] : List Nat) ++ List.replicate (i + 1 - (([] : List Nat)).length) 49), ([] : List Nat) ++ List.replicate (i + 1 - (([] : List Nat)).length) 49, some (.int (0 + (j : Int))), ?_, ?_, ?_, ?_, ?_, fun b u nb hb => by rw [upd_ne nb]; exact ke2 b u nb hb⟩
            · rw [← ec]
              rfl
            · rw [fst2, e2]
              exact stepL_yes en (if_pos rfl)
            · rw [upd_same]
              show some (HO.lst ((f.map sV).set j (V.str _))) = _
              rw [ec]
              show some (HO.lst ((f.map sV).set j (sV (([] : List Nat) ++ List.replicate (i + 1 - (([] : List Nat)).length) 49)))) = _
              rw [← List.map_set]
            · rw [List.length_append, List.length_replicate]
              omega
            · rw [List.length_set]
              exact lf
          · have ne0 : (!decide (V.str (sOf l) = V.str (Str.ofString ""))) = true := by
              rw [decide_eq_false]
              · rfl
              · intro z
                have z2 : sOf l = sOf [] := V.str.inj z
                exact hl0 (sOf_inj z2)
            rw [ne0]
            refine ⟨_, rfl, l, rfl, by omega, ?_⟩
            cases hless : lawLess l with
            | none =>
              refine ⟨_, rfl, rfl, _, rfl, ?_⟩
              refine q0 H2 (sameOf ke2) ?_
              rw [lawW_eq]
              refine fold_take _ (rowL_none ns) ls12 _ (i + 1) ?_
              rw [row1]
              refine fold_take _ (stepL_none ns (i + 1)) _ _ (j + 1) ?_
              have fst3 := fst2
              rw [e2] at fst3
              have e3 : stepL ns (i + 1) (some (f, l)) j = none := stepL_bad en ((if_neg hl0).trans hless)
              rw [e3] at fst3
              exact fst3
            | some bb =>
              have lb := lawLess_len hless
              refine ⟨_, rfl, rfl, _, rfl, ?_⟩
              refine ⟨_, rfl, _, rfl, _, rfl, _, rfl, (by rw [sOf_len]; exact sz (by omega)), _, _, rfl, rfl, 49, _, rfl, rfl, ⟨by rw [sOf_len]; omega, by rw [sOf_len]; omega⟩, _, _, rfl, rfl, ?_, ?_⟩
              · rw [sOf_len, sOf_len, List.length_replicate]
                exact sz (by omega)
              refine ⟨_, rfl, _, rfl, _, rfl, q, _, _, j, rfl, rfl, hq2, (by rw [Int.zero_add]; exact Evl.ixN_nat (by rw [List.length_map]; omega)), ?_⟩
              have ec : sOf bb ++ sOf (List.replicate ((1 + (i : Int)) - ((sOf bb).length : Int)).toNat 49) = sOf (bb ++ List.replicate (i + 1 - (bb).length) 49) := by
                rw [sOf_app, sOf_len, show ((1 + (i : Int)) - ((bb).length : Int)).toNat = i + 1 - (bb).length by omega]
              refine ⟨f.set j (bb ++ List.replicate (i + 1 - (bb).length) 49), bb ++ List.replicate (i + 1 - (bb).length) 49, some (.int (0 + (j : Int))), ?_, ?_, ?_, ?_, ?_, fun b u nb hb => by rw [upd_ne nb]; exact ke2 b u nb hb⟩
              · rw [← ec]
                rfl
              · rw [fst2, e2]
                exact stepL_yes en ((if_neg hl0).trans hless)
              · rw [upd_same]
                show some (HO.lst ((f.map sV).set j (V.str _))) = _
                rw [ec]
                show some (HO.lst ((f.map sV).set j (sV (bb ++ List.replicate (i + 1 - (bb).length) 49)))) = _
                rw [← List.map_set]
              · rw [List.length_append, List.length_replicate]
                omega
              · rw [List.length_set]
                exact lf
        · have en : ¬ ns.getD j 0 = i + 1 := fun z => e (decide_eq_true (by rw [z]; congr 1; omega))
          refine ⟨f, l, some (.int (0 + (j : Int))), rfl, ?_, hq2, ll, lf, ke2⟩
          rw [fst2, e2]
          exact stepL_no en
      · rintro σ H2 ⟨f, l, y4, rfl, e2, hq2, ll, lf, ke2⟩
        refine ⟨f, l, _, _, rfl, ?_, hq2, ll, lf, ke2⟩
        rw [row1]
        rw [List.take_of_length_le (by rw [List.length_range]; exact Nat.le_refl _)] at e2
        exact e2
    · rintro σ H1 ⟨f, l, y3, y4, rfl, e1, hq1, ll, lf, ke⟩
      refine ⟨_, rfl, ?_⟩
      refine qq q f l H1 ?_ fq (sameOf ke) hq1
      rw [lawW_eq]
      rw [List.take_of_length_le (by decide)] at e1
      exact e1

/-! ### the bits of runs -/
def tabL (d : Bool) : List Nat := if d = true then darkL else lightL
def cellS (d : Bool) : Str := if d = true then Str.ofString "#" else Str.ofString "."
def tabW (d : Bool) : List (List Nat) := Fp.wordsOf (tabL d)
theorem tabW_len (d : Bool) : (tabW d).length = 20 := by
  cases d
  · exact len_light
  · exact len_dark
theorem tabW_lens (d : Bool) : ∀ w ∈ tabW d, w.length ≤ 12 := by
  cases d
  · exact lens_light
  · exact lens_dark
theorem tabW_at {d : Bool} {r : Nat} (h : r < 20) : ((tabW d).map sV)[r]? = some (sV ((tabW d).getD r [])) ∧ ((tabW d).getD r []).length ≤ 12 := by
  have h2 : r < (tabW d).length := by rw [tabW_len]; exact h
  rw [List.getElem?_map, List.getD_eq_getElem?_getD, List.getElem?_eq_getElem h2]
  exact ⟨rfl, tabW_lens d _ (List.getElem_mem h2)⟩
def spColour (p : Addr) : Sp := fun vs H Q _ => ∃ d : Bool, vs = [.str (cellS d)] ∧ LamX.Tabs (TT p) H ∧
  ∀ q H', LamX.ExtN H H' → LamX.Tabs (TT p) H' → H q = none → H' q = some (.lst ((tabW d).map sV)) → Q (.ref q) H'
theorem ok_colour_words {A : Ad} (T : Txt w K mg base A) : FnOk P w K mg base CX0 3 A.a_colour_words A.d_colour_words P_colour_words (spColour A.p_making_order) := by
  have G_words_by := ok_words_by (P := P) (w := w) (base := base) T
  refine T.F_colour_words.ok sc_colour_words (fun vs H Q E h => ?_) (fun cdv Ar outer s H vs Q E hr h => ?_)
  · obtain ⟨d, rfl, _⟩ := h
    rfl
  · obtain ⟨d, rfl, hT, q⟩ := h
    refine ⟨_, (pss_one (ps_ret (pe_call G_words_by (hr.mono (by decide)) (by rfl) T.g_words_by T.F_words_by.kp T.b_words_by .nil pass0 (pa_cons (pe_callTy call_list_of (by rfl) T.z_list (by decide +kernel) (pa_cons (pe_ix (r := rIxD K w) ix_kdict (pe_glob (v := .ref A.t_LENGTHS) (by rfl) T.c_LENGTHS rfl) (pv 0) (fun _ _ => rfl)) pa_nil)) pa_nil)))), ?_⟩
    cases d with
    | false =>
      refine ⟨_, rfl, _, _, _, rfl, rfl, T.D_LENGTHS_0, _, _, rfl, .inr (T.S_LENGTHS_0 H), fun l hl => ?_⟩
      refine ⟨l, lightL, rfl, tabs_same hT (same_new hl), upd_same, by decide, by decide, light_ok, fun q2 H' eN T2 fq hq => ?_⟩
      exact q q2 H' (fun b o hb nt => eN b o (same_new hl _ _ hb) nt) T2 ((same_new hl).free fq) hq
    | true =>
      refine ⟨_, rfl, _, _, _, rfl, rfl, T.D_LENGTHS_1, _, _, rfl, .inr (T.S_LENGTHS_1 H), fun l hl => ?_⟩
      refine ⟨l, darkL, rfl, tabs_same hT (same_new hl), upd_same, by decide, by decide, dark_ok, fun q2 H' eN T2 fq hq => ?_⟩
      exact q q2 H' (fun b o hb nt => eN b o (same_new hl _ _ hb) nt) T2 ((same_new hl).free fq) hq
def spRun0 : Sp := fun vs H Q _ => ∃ (a : Addr) (d : Bool) (r : Nat) (x : Int), vs = [.ref a, .int x] ∧ x = r ∧ H a = some (.lst ((tabW d).map sV)) ∧ r < 16 ∧ Q (.str (sOf ((tabW d).getD r []))) H
theorem ok_run_by0 {A : Ad} (T : Txt w K mg base A) : FnOk P w K mg base CX0 1 A.a_run_by A.d_run_by P_run_by spRun0 := by
  refine T.F_run_by.ok sc_run_by (fun vs H Q E h => ?_) (fun cdv Ar outer s H vs Q E hr h => ?_)
  · obtain ⟨a, d, r, x, rfl, _⟩ := h
    rfl
  · obtain ⟨a, d, r, _, rfl, rfl, ha, hr16, q⟩ := h
    refine ⟨_, (pss_cons (ps_if (pt_cmpR op_lt (pv 1) (pe_glob (v := .int 16) (by rfl) T.c_ENDS ⟨_, rfl⟩) (nomark _))
      (pss_one (ps_ret (pe_ix (r := rIxL K) ix_list (pv 0) (pv 1) (fun _ _ => rfl)))) pss_nil)
      (pss_cons ps_never
      (pss_one ps_never))), ?_⟩
    refine ⟨_, rfl, _, _, rfl, rfl, _, rfl, ite2 (fun e => ?_) (fun e => ?_)⟩
    · exact ⟨_, rfl, _, rfl, _, _, _, _, rfl, rfl, SqL.of ha, atI_nat (tabW_at (by omega)).1, q⟩
    · exact absurd (decide_eq_true (by omega)) e
def spRun : Sp := fun vs H Q _ => ∃ (a : Addr) (d : Bool) (r : Nat) (x : Int), vs = [.ref a, .int x] ∧ x = r ∧ H a = some (.lst ((tabW d).map sV)) ∧ r ≤ 64 ∧ Q (.str (sOf (runT (tabW d) r))) H
theorem ok_run_by {A : Ad} (T : Txt w K mg base A) : FnOk P w K mg base CX0 2 A.a_run_by A.d_run_by P_run_by spRun := by
  have G_run_by := ok_run_by0 (P := P) (w := w) (base := base) T
  refine T.F_run_by.ok sc_run_by (fun vs H Q E h => ?_) (fun cdv Ar outer s H vs Q E hr h => ?_)
  · obtain ⟨a, d, r, x, rfl, _⟩ := h
    rfl
  · obtain ⟨a, d, r, _, rfl, rfl, ha, hr64, q⟩ := h
    refine ⟨_, (pss_cons (ps_if (pt_cmpR op_lt (pv 1) (pe_glob (v := .int 16) (by rfl) T.c_ENDS ⟨_, rfl⟩) (nomark _))
      (pss_one (ps_ret (pe_ix (r := rIxL K) ix_list (pv 0) (pv 1) (fun _ _ => rfl)))) pss_nil)
      (pss_cons (ps_set (i := 2) sc_run_by.nd rfl (Or.inl rfl) (pe_callB (call_min2 rfl) (by rfl) T.z_min (by decide +kernel) (pa_cons (pe_op op_fdiv (pv 1) (pe_glob (v := .int 16) (by rfl) T.c_ENDS ⟨_, rfl⟩)) (pa_cons (pe_glob (v := .int 4) (by rfl) T.c_MAKERS ⟨_, rfl⟩) pa_nil))))
      (pss_one (ps_ret (pe_op op_add_str (pe_ix (r := rIxL K) ix_list (pv 0) (pe_op op_sub (pe_op op_add (pe_glob (v := .int 16) (by rfl) T.c_ENDS ⟨_, rfl⟩) (pv 2)) pe_int) (fun _ _ => rfl)) (pe_call G_run_by (hr.mono (by decide)) (by rfl) T.g_run_by T.F_run_by.kp T.b_run_by .nil pass0 (pa_cons (pv 0) (pa_cons (pe_op op_sub (pv 1) (pe_op op_mul (pv 2) (pe_glob (v := .int 16) (by rfl) T.c_ENDS ⟨_, rfl⟩))) pa_nil)))))))), ?_⟩
    refine ⟨_, rfl, _, _, rfl, rfl, _, rfl, ite2 (fun e => ?_) (fun e => ?_)⟩
    · have r16 : r < 16 := by
        have := of_decide_eq_true e
        omega
      unfold runT at q
      rw [if_pos r16] at q
      exact ⟨_, rfl, _, rfl, _, _, _, _, rfl, rfl, SqL.of ha, atI_nat (tabW_at (by omega)).1, q⟩
    · have r16 : ¬ r < 16 := fun z => e (decide_eq_true (by omega))
      unfold runT at q
      rw [if_neg r16] at q
      have em : (if (4 : Int) < (r : Int) / 16 then (4 : Int) else (r : Int) / 16) = ((r / 16 : Nat) : Int) := by
        rw [if_neg (by omega)]
        omega
      refine ⟨_, rfl, _, _, rfl, rfl, ⟨by decide, by decide⟩, _, _, rfl, ?_⟩
      rw [em]
      have t1 := tabW_at (d := d) (r := 15 + r / 16) (by omega)
      have t2 := tabW_at (d := d) (r := r - r / 16 * 16) (by omega)
      refine ⟨_, rfl, _, rfl, _, _, rfl, rfl, _, _, rfl, rfl, _, _, _, sV ((tabW d).getD (15 + r / 16) []), rfl, rfl, SqL.of ha, ?_, _, rfl, _, rfl, _, rfl, _, _, rfl, rfl, .inr ⟨by decide, by decide⟩, _, _, rfl, rfl, a, d, r - r / 16 * 16, _, rfl, by omega, ha, by omega, _, _, rfl, rfl, ?_, ?_⟩
      · rw [show (16 : Int) + ((r / 16 : Nat) : Int) - 1 = ((15 + r / 16 : Nat) : Int) by omega]
        exact atI_nat t1.1
      · rw [sOf_len, sOf_len]
        exact sz (by have := t1.2; have := t2.2; omega)
      · rw [sOf_app]
        exact q
def spBits (p : Addr) : Sp := fun vs H Q _ => ∃ (d : Bool) (r : Nat) (x : Int), vs = [.str (cellS d), .int x] ∧ x = r ∧ r ≤ 64 ∧ LamX.Tabs (TT p) H ∧
  ∀ H', LamX.ExtN H H' → LamX.Tabs (TT p) H' → Q (.str (sOf (runT (tabW d) r))) H'
theorem ok_run_bits {A : Ad} (T : Txt w K mg base A) : FnOk P w K mg base CX0 4 A.a_run_bits A.d_run_bits P_run_bits (spBits A.p_making_order) := by
  have G_run_by := ok_run_by (P := P) (w := w) (base := base) T
  have G_colour_words := ok_colour_words (P := P) (w := w) (base := base) T
  refine T.F_run_bits.ok sc_run_bits (fun vs H Q E h => ?_) (fun cdv Ar outer s H vs Q E hr h => ?_)
  · obtain ⟨d, r, x, rfl, _⟩ := h
    rfl
  · obtain ⟨d, r, _, rfl, rfl, hr64, hT, q⟩ := h
    refine ⟨_, (pss_one (ps_ret (pe_call G_run_by (hr.mono (by decide)) (by rfl) T.g_run_by T.F_run_by.kp T.b_run_by .nil pass0 (pa_cons (pe_call G_colour_words (hr.mono (by decide)) (by rfl) T.g_colour_words T.F_colour_words.kp T.b_colour_words .nil pass0 (pa_cons (pv 0) pa_nil)) (pa_cons (pv 1) pa_nil))))), ?_⟩
    refine ⟨_, rfl, d, rfl, hT, fun q1 H1 eN T1 fq hq => ⟨_, rfl, q1, d, r, _, rfl, rfl, hq, hr64, q H1 eN T1⟩⟩

def spTables : Sp := fun vs H Q _ => vs = [] ∧ ∀ p t0 t1 t2 H', Same H H' → H' p = some (.lst [.ref t0, .ref t1, .ref t2]) → H' t0 = some (.lst ((tabW false).map sV)) → H' t1 = some (.lst ((tabW true).map sV)) → Q (.ref p) H'
theorem law_light {W : List (List Nat)} {l : List Nat} (h : lawW lightL = some (W, l)) : W = tabW false := by
  have := light_same
  rw [h] at this
  exact Option.some.inj this
theorem law_dark {W : List (List Nat)} {l : List Nat} (h : lawW darkL = some (W, l)) : W = tabW true := by
  have := dark_same
  rw [h] at this
  exact Option.some.inj this
theorem not_none {ns : List Nat} (h : (lawW ns).isSome = true) (e : lawW ns = none) : False := by
  rw [e] at h
  cases h
theorem ok_tables {A : Ad} (T : Txt w K mg base A) : FnOk P w K mg base CX0 3 A.a_tables A.d_tables P_tables spTables := by
  have G_words := ok_words (P := P) (w := w) (base := base) T
  refine T.F_tables.ok sc_tables (fun vs H Q E h => ?_) (fun cdv Ar outer s H vs Q E hr h => ?_)
  · obtain ⟨rfl, _⟩ := h
    rfl
  · obtain ⟨rfl, q⟩ := h
    refine ⟨_, (pss_cons (ps_set (i := 0) sc_tables.nd rfl (Or.inl rfl) (pe_lst (pa_cons pe_int (pa_cons pe_int (pa_cons pe_int (pa_cons pe_int (pa_cons pe_int (pa_cons pe_int (pa_cons pe_int (pa_cons pe_int (pa_cons pe_int (pa_cons pe_int (pa_cons pe_int (pa_cons pe_int (pa_cons pe_int (pa_cons pe_int (pa_cons pe_int (pa_cons pe_int (pa_cons pe_int (pa_cons pe_int (pa_cons pe_int (pa_cons pe_int pa_nil))))))))))))))))))))))
      (pss_cons (ps_set (i := 1) sc_tables.nd rfl (Or.inl rfl) (pe_lst (pa_cons pe_int (pa_cons pe_int (pa_cons pe_int (pa_cons pe_int (pa_cons pe_int (pa_cons pe_int (pa_cons pe_int (pa_cons pe_int (pa_cons pe_int (pa_cons pe_int (pa_cons pe_int (pa_cons pe_int (pa_cons pe_int (pa_cons pe_int (pa_cons pe_int (pa_cons pe_int (pa_cons pe_int (pa_cons pe_int (pa_cons pe_int (pa_cons pe_int pa_nil))))))))))))))))))))))
      (pss_one (ps_ret (pe_lst (pa_cons (pe_call G_words (hr.mono (by decide)) (by rfl) T.g_words T.F_words.kp T.b_words .nil pass0 (pa_cons (pv 0) pa_nil)) (pa_cons (pe_call G_words (hr.mono (by decide)) (by rfl) T.g_words T.F_words.kp T.b_words .nil pass0 (pa_cons (pv 1) pa_nil)) (pa_cons (pe_call G_words (hr.mono (by decide)) (by rfl) T.g_words T.F_words.kp T.b_words .nil pass0 (pa_cons (pe_lst (pa_cons pe_int (pa_cons pe_int (pa_cons pe_int (pa_cons pe_int (pa_cons pe_int (pa_cons pe_int (pa_cons pe_int (pa_cons pe_int (pa_cons pe_int pa_nil)))))))))) pa_nil)) pa_nil)))))))), ?_⟩
    refine ⟨(by show 20 ≤ sizeLine; decide), fun p1 h1 => ?_⟩
    refine ⟨(by show 20 ≤ sizeLine; decide), fun p2 h2 => ?_⟩
    refine ⟨_, rfl, p1, lightL, rfl, ?_, by decide, by decide, fun H' _ e => (not_none (by decide +kernel) e).elim, fun t0 W0 l0 H3 e0 f0 s3 g0 => ?_⟩
    · rw [upd_ne (ne_of_none upd_same h2), upd_same]
      rfl
    refine ⟨_, rfl, p2, darkL, rfl, s3 _ _ upd_same, by decide, by decide, fun H' _ e => (not_none (by decide +kernel) e).elim, fun t1 W1 l1 H4 e1 f1 s4 g1 => ?_⟩
    refine ⟨(by show 9 ≤ sizeLine; decide), fun p5 h5 => ?_⟩
    refine ⟨p5, [1, 3, 3, 3, 5, 5, 6, 6, 6], rfl, upd_same, by decide, by decide, fun H' _ e => (not_none third_some e).elim, fun t2 W2 l2 H6 e2 f2 s6 g2 => ?_⟩
    refine ⟨(by show 3 ≤ sizeLine; decide), fun p7 h7 => ?_⟩
    have s5 : Same H4 _ := same_new (o := .lst [.int 1, .int 3, .int 3, .int 3, .int 5, .int 5, .int 6, .int 6, .int 6]) h5
    have s7 := fun (o : HO) => same_new (o := o) h7
    have sA := ((same_new (o := .lst (nvs lightL)) h1).trans (same_new (o := .lst (nvs darkL)) h2)).trans (s3.trans (s4.trans (s5.trans s6)))
    rw [law_light e0] at g0
    rw [law_dark e1] at g1
    exact q p7 t0 t1 t2 _ (sA.trans (s7 _)) upd_same (s7 _ _ _ (s6 _ _ (s5 _ _ (s4 _ _ g0)))) (s7 _ _ _ (s6 _ _ (s5 _ _ g1)))
def spLRun : Sp := fun vs H Q _ => ∃ (p t0 t1 t2 : Addr) (d : Bool) (r : Nat) (x : Int), vs = [.ref p, .str (cellS d), .int x] ∧ x = r ∧ r ≤ 64 ∧ H p = some (.lst [.ref t0, .ref t1, .ref t2]) ∧ H t0 = some (.lst ((tabW false).map sV)) ∧ H t1 = some (.lst ((tabW true).map sV)) ∧ Q (.str (sOf (runT (tabW d) r))) H
theorem ok_run {A : Ad} (T : Txt w K mg base A) : FnOk P w K mg base CX0 1 A.a_run A.d_run P_run spLRun := by
  refine T.F_run.ok sc_run (fun vs H Q E h => ?_) (fun cdv Ar outer s H vs Q E hr h => ?_)
  · obtain ⟨p, t0, t1, t2, d, r, x, rfl, _⟩ := h
    rfl
  · obtain ⟨p, t0, t1, t2, d, r, _, rfl, rfl, hr64, hp, h0, h1, q⟩ := h
    refine ⟨_, (pss_cons (ps_set (i := 3) sc_run.nd rfl (Or.inl rfl) (pe_ix (r := rIxL K) ix_list (pv 0) (pe_callTy call_int1 (by rfl) T.z_int (by decide +kernel) (pa_cons (pe_cmpR op_eq (pv 1) pe_str (nomark _)) pa_nil)) (fun _ _ => rfl)))
      (pss_cons (ps_if (pt_cmpR op_lt (pv 2) pe_int (nomark _))
      (pss_one (ps_ret (pe_ix (r := rIxL K) ix_list (pv 3) (pv 2) (fun _ _ => rfl)))) pss_nil)
      (pss_one (ps_ret (pe_op op_add_str (pe_ix (r := rIxL K) ix_list (pv 3) (pe_op op_add pe_int (pe_op op_fdiv (pv 2) pe_int)) (fun _ _ => rfl)) (pe_ix (r := rIxL K) ix_list (pv 3) (pe_op op_sub (pv 2) (pe_op op_mul (pe_op op_fdiv (pv 2) pe_int) pe_int)) (fun _ _ => rfl))))))), ?_⟩
    obtain ⟨tt, et, ht⟩ : ∃ tt, atI [V.ref t0, V.ref t1, V.ref t2] (if decide (V.str (cellS d) = V.str (Str.ofString "#")) = true then (1 : Int) else 0) = some (.ref tt) ∧ H tt = some (.lst ((tabW d).map sV)) := by
      cases d with
      | false => exact ⟨t0, rfl, h0⟩
      | true => exact ⟨t1, rfl, h1⟩
    refine ⟨_, rfl, _, rfl, rfl, .inr ⟨_, rfl, _, _, _, .ref tt, rfl, rfl, SqL.of hp, et, ?_⟩⟩
    refine ⟨_, rfl, _, _, rfl, rfl, _, rfl, ite2 (fun e => ?_) (fun e => ?_)⟩
    · have r16 : r < 16 := by
        have := of_decide_eq_true e
        omega
      unfold runT at q
      rw [if_pos r16] at q
      exact ⟨_, rfl, _, rfl, _, _, _, _, rfl, rfl, SqL.of ht, atI_nat (tabW_at (by omega)).1, q⟩
    · have r16 : ¬ r < 16 := fun z => e (decide_eq_true (by omega))
      unfold runT at q
      rw [if_neg r16] at q
      have u1 := tabW_at (d := d) (r := 15 + r / 16) (by omega)
      have u2 := tabW_at (d := d) (r := r - r / 16 * 16) (by omega)
      refine ⟨_, rfl, _, rfl, _, _, rfl, rfl, ⟨by decide, by decide⟩, _, _, rfl, rfl, _, _, _, sV ((tabW d).getD (15 + r / 16) []), rfl, rfl, SqL.of ht, ?_, _, rfl, _, rfl, _, rfl, _, _, rfl, rfl, ⟨by decide, by decide⟩, _, _, rfl, rfl, .inr ⟨by decide, by decide⟩, _, _, rfl, rfl, _, _, _, sV ((tabW d).getD (r - r / 16 * 16) []), rfl, rfl, SqL.of ht, ?_, _, _, rfl, rfl, ?_, ?_⟩
      · rw [show (15 : Int) + (r : Int) / 16 = ((15 + r / 16 : Nat) : Int) by omega]
        exact atI_nat u1.1
      · rw [show (r : Int) - (r : Int) / 16 * 16 = ((r - r / 16 * 16 : Nat) : Int) by omega]
        exact atI_nat u2.1
      · rw [sOf_len, sOf_len]
        exact sz (by have := u1.2; have := u2.2; omega)
      · rw [sOf_app]
        exact q
def RunAt (H : Hp) (v : V) : Prop := ∃ (a : Addr) (d : Bool) (r : Nat), v = .ref a ∧ H a = some (.tup [.str (cellS d), .int (r : Int)]) ∧ r ≤ 64
theorem RunAt.same {H H' : Hp} {v : V} (h : RunAt H v) (e : Same H H') : RunAt H' v := by
  obtain ⟨a, d, r, rfl, h1, h2⟩ := h
  exact ⟨a, d, r, rfl, e _ _ h1, h2⟩
theorem RunAt.but {H : Hp} {v : V} {D : Addr} {xs : List V} {o : HO} (h : RunAt H v) (hD : H D = some (.lst xs)) : RunAt (upd H D o) v := by
  obtain ⟨a, d, r, rfl, h1, h2⟩ := h
  refine ⟨a, d, r, rfl, ?_, h2⟩
  rw [upd_ne (ne_of h1 hD (by intro z; cases z))]
  exact h1
/-- the turn of a comprehension of runs -/
def RunsPv (H : Hp) (D : Addr) (i : Nat) (H' : Hp) : Prop := ∃ xs : List V, H' D = some (.lst xs) ∧ xs.length = i ∧ (∀ v ∈ xs, RunAt H' v) ∧ Same H H'
def spLaw (K : PySem.W.Frag) (p : Addr) : Sp := fun vs H Q _ => ∃ (a : Addr) (ns : List Int), vs = [.ref a] ∧ SqL K H a (ns.map V.int) ∧ ns.length ≤ 63 ∧ H p = some (.tbl #[]) ∧ ∀ H', Q (.bl true) H'
theorem runs_turn {H H1 : Hp} {D p : Addr} {i : Nat} {d : Bool} (hD : H D = none) (h : RunsPv H D i H1) (hi : i < 65) (hp : H1 p = none) : ∃ acc, upd H1 p (.tup [.str (cellS d), .int (0 + (i : Int))]) D = some (.lst acc) ∧ acc.length < sizeLine ∧ RunsPv H D (i + 1) (upd (upd H1 p (.tup [.str (cellS d), .int (0 + (i : Int))])) D (.lst (acc ++ [.ref p]))) := by
  obtain ⟨xs, h1, l1, r1, sm⟩ := h
  have nD : D ≠ p := ne_of_none h1 hp
  have hD2 : upd H1 p (.tup [.str (cellS d), .int (0 + (i : Int))]) D = some (.lst xs) := by
    rw [upd_ne nD]
    exact h1
  refine ⟨xs, hD2, szl (by omega), xs ++ [.ref p], upd_same, ?_, fun v hv => ?_, Same.mut (sm.trans (same_new hp)) hD⟩
  · rw [List.length_append, l1]
    rfl
  · rcases List.mem_append.mp hv with z | z
    · exact ((r1 v z).same (same_new hp)).but hD2
    · rw [List.mem_singleton.mp z]
      refine ⟨p, d, i, rfl, ?_, by omega⟩
      rw [upd_ne nD.symm, upd_same, Int.zero_add]
theorem ok_law {A : Ad} (T : Txt w K mg base A) : FnOk P w K mg base CX0 5 A.a_law A.d_law P_law (spLaw K A.p_making_order) := by
  have G_tables := ok_tables (P := P) (w := w) (base := base) T
  have G_bag := ok_bag (P := P) (w := w) (base := base) T
  have G_run_bits := ok_run_bits (P := P) (w := w) (base := base) T
  have G_run := ok_run (P := P) (w := w) (base := base) T
  have G_draw := ok_draw (P := P) (w := w) (base := base) T
  refine T.F_law.ok sc_law (fun vs H Q E h => ?_) (fun cdv Ar outer s H vs Q E hr h => ?_)
  · obtain ⟨a, ns, rfl, _⟩ := h
    rfl
  · obtain ⟨a, ns, rfl, hS, ln, hP, q⟩ := h
    refine ⟨_, (pss_cons (ps_set (i := 1) sc_law.nd rfl (Or.inl rfl) (pe_call0 G_tables (hr.mono (by decide)) (by rfl) T.g_tables T.F_tables.kp T.b_tables .nil pass0))
      (pss_cons (ps_set (i := 2) sc_law.nd rfl (Or.inl rfl) (pe_op op_cat (pe_lc (own := [("_law_run_here", 7)]) (g := gName 7) (tt := tYes) (by rfl) sc_law.nd (pi_range1 (by rfl) T.z_range (pa_cons pe_int pa_nil)) (blkOk_by (own := [("_law_run_here", 7)]) (N := N_law) (sc := defScope s_law) (by decide +kernel)) (fun _ _ _ _ _ => pg_name (i := 7) sc_law.nd rfl (Or.inl rfl)) (fun _ _ _ _ _ => pts_nil) (fun _ _ _ _ _ => (pe_tup (pa_cons pe_str (pa_cons (pv 7) pa_nil))))) (pe_lc (own := [("_law_run_here", 7)]) (g := gName 7) (tt := tYes) (by rfl) sc_law.nd (pi_range1 (by rfl) T.z_range (pa_cons pe_int pa_nil)) (blkOk_by (own := [("_law_run_here", 7)]) (N := N_law) (sc := defScope s_law) (by decide +kernel)) (fun _ _ _ _ _ => pg_name (i := 7) sc_law.nd rfl (Or.inl rfl)) (fun _ _ _ _ _ => pts_nil) (fun _ _ _ _ _ => (pe_tup (pa_cons pe_str (pa_cons (pv 7) pa_nil)))))))
      (pss_cons (ps_for PassesOwn.never rfl (pi_range1 (by rfl) T.z_range (pa_cons (pe_callB (call_min2 rfl) (by rfl) T.z_min (by decide +kernel) (pa_cons pe_int (pa_cons (pe_callB (r := fun xs H Q => ∃ p ys, xs = [.ref p] ∧ (SqL K H p ys ∨ SqT K H p ys) ∧ Q (.int ys.length) H) call_len_seq (by rfl) T.z_len PySem.boot_len (pa_cons (pv 0) pa_nil)) pa_nil))) pa_nil)) (pg_name (i := 3) sc_law.nd rfl (Or.inl rfl))
      (pss_cons (ps_set (i := 4) sc_law.nd rfl (Or.inl rfl) (pe_call G_bag (hr.mono (by decide)) (by rfl) T.g_bag T.F_bag.kp T.b_bag .nil pass0 (pa_cons (pv 0) (pa_cons (pv 3) pa_nil))))
      (pss_one (ps_for PassesOwn.never rfl (pi_range1 (by rfl) T.z_range (pa_cons pe_int pa_nil)) (pg_name (i := 5) sc_law.nd rfl (Or.inl rfl))
      (pss_one (ps_expr (pe_bm PySem.F.plainAttrs_list PySem.F.slot_list_append PySem.F.type_list_append mt_append (pv 2) (pa_cons (pe_bm PySem.F.plainAttrs_list PySem.F.slot_list_pop PySem.F.type_list_pop mt_popAt (pv 2) (pa_cons (pe_call G_draw (hr.mono (by decide)) (by rfl) T.g_draw T.F_draw.kp T.b_draw .nil pass0 (pa_cons (pv 4) (pa_cons pe_int pa_nil))) pa_nil)) pa_nil))))))))
      (pss_cons (ps_for PassesOwn.never rfl (pi_list (pe_op op_cat (pv 2) (pe_slice sl_list (pv 2) po_none (po_some pe_int)))) (pg_tup (by rfl) (pgs_cons (pg_name (i := 6) sc_law.nd rfl (Or.inl rfl)) (pgs_cons (pg_name (i := 7) sc_law.nd rfl (Or.inl rfl)) pgs_nil)))
      (pss_one (ps_if (pt_cmpR op_ne (pe_call G_run_bits (hr.mono (by decide)) (by rfl) T.g_run_bits T.F_run_bits.kp T.b_run_bits .nil pass0 (pa_cons (pv 6) (pa_cons (pv 7) pa_nil))) (pe_call G_run (hr.mono (by decide)) (by rfl) T.g_run T.F_run.kp T.b_run .nil pass0 (pa_cons (pv 1) (pa_cons (pv 6) (pa_cons (pv 7) pa_nil)))) (nomark _))
      (pss_one (ps_ret pe_bl)) pss_nil)))
      (pss_one (ps_ret pe_bl)))))), ?_⟩
    refine ⟨rfl, fun tp t0 t1 t2 H1 s1 etp et0 et1 => ?_⟩
    refine ⟨_, rfl, by decide, by decide, fun D1 hD1 => lc_range (lo := 0) (n := 65) (RunsPv H1 D1) ⟨[], upd_same, rfl, (fun v hv => nomatch hv), same_new hD1⟩ (fun i H2 hi h => ⟨rfl, _, rfl, (by show 2 ≤ sizeLine; decide), fun p hp => runs_turn (d := false) hD1 h hi hp⟩) ?_⟩
    rintro H2 ⟨xs1, e1, l1, r1, s2⟩
    refine ⟨_, rfl, by decide, by decide, fun D2 hD2 => lc_range (lo := 0) (n := 65) (RunsPv H2 D2) ⟨[], upd_same, rfl, (fun v hv => nomatch hv), same_new hD2⟩ (fun i H3 hi h => ⟨rfl, _, rfl, (by show 2 ≤ sizeLine; decide), fun p hp => runs_turn (d := true) hD2 h hi hp⟩) ?_⟩
    rintro HB ⟨xs2, e2, l2, r2, s3⟩
    refine ⟨_, _, _, _, rfl, rfl, s3 _ _ e1, e2, sz (by omega), fun D3 hD3 => ?_⟩
    have sHB : Same H HB := (s1.trans s2).trans s3
    have rAll : ∀ v ∈ xs1 ++ xs2, RunAt HB v := fun v hv => by
      rcases List.mem_append.mp hv with z | z
      · exact (r1 v z).same s3
      · exact r2 v z
    have tpB := s3 _ _ (s2 _ _ etp)
    have t0B := s3 _ _ (s2 _ _ et0)
    have t1B := s3 _ _ (s2 _ _ et1)
    refine ⟨_, rfl, a, _, rfl, .inl ((sHB.trans (same_new hD3)).seq hS), _, _, rfl, _, rfl, ?_, ?_, for_range (fun i σ H' => ∃ (xs : List V) (y3 y4 y5 y6 y7 : Option V), σ = [some (.ref a), some (.ref tp), some (.ref D3), y3, y4, y5, y6, y7] ∧ H' D3 = some (.lst xs) ∧ xs.length = 130 ∧ (∀ v ∈ xs, RunAt HB v) ∧ Same HB H')
      ⟨xs1 ++ xs2, none, none, none, none, none, rfl, upd_same, by rw [List.length_append]; omega, rAll, same_new hD3⟩ ?_ ?_⟩
    · rw [List.length_map]
      split <;> omega
    · rw [List.length_map]
      split <;> omega
    · rintro i σ H4 hi ⟨xs, y3, y4, y5, y6, y7, rfl, e4, l4, r4, s4⟩
      have hi8 : i < 64 := by
        rw [List.length_map] at hi
        revert hi
        split <;> omega
      refine ⟨_, rfl, _, rfl, a, ns, _, rfl, (sHB.trans s4).seq hS, by omega, by omega, fun b g s hb g0 s0 s1 => ?_⟩
      have fb : HB b = none := s4.free hb
      have nb : D3 ≠ b := ne_of_none e4 hb
      refine ⟨_, rfl, by decide, by decide, for_range (lo := 0) (n := 20) (fun j σ H' => ∃ (xs : List V) (y5 : Option V), σ = [some (.ref a), some (.ref tp), some (.ref D3), some (.int (0 + (i : Int))), some (.ref b), y5, y6, y7] ∧ H' D3 = some (.lst xs) ∧ xs.length = 130 ∧ (∀ v ∈ xs, RunAt HB v) ∧ Same HB H' ∧ BagAt H' b)
        ⟨xs, y5, rfl, by rw [upd_ne nb]; exact e4, l4, r4, s4.trans (same_new hb), BagAt.new g0 s0 s1⟩ ?_ ?_⟩
      · rintro j σ H5 hj ⟨xs, y5, rfl, e5, l5, r5, s5, b5⟩
        refine ⟨_, rfl, .inl ⟨rfl, _, SqL.of e5⟩, _, rfl, .inl ⟨rfl, _, SqL.of e5⟩, _, rfl, b, 130, rfl, b5, by decide, by decide, fun x H6 x0 x1 bx => ?_⟩
        obtain ⟨k, rfl⟩ := Int.eq_ofNat_of_zero_le x0
        have hk : k < xs.length := by omega
        have e6 := bx.2 _ _ nb e5
        have s6 : Same HB H6 := fun c o hc => bx.2 c o (ne_of_none hc fb) (s5 c o hc)
        refine ⟨D3, xs, _, k, xs[k], rfl, rfl, e6, by omega, by omega, ?_, List.getElem?_eq_getElem hk, D3, _, _, rfl, rfl, upd_same, ?_, ?_⟩
        · rw [PySem.seqIndex_of (by omega) (by omega)]
          rfl
        · rw [List.length_eraseIdx]
          exact szl (by split <;> omega)
        · refine ⟨xs.eraseIdx k ++ [xs[k]], some (.int (0 + (j : Int))), rfl, by rw [upd_upd, upd_same], ?_, fun v hv => ?_, Same.mut (Same.mut s6 hD3) hD3, ?_⟩
          · rw [List.length_append, List.length_eraseIdx, if_pos hk]
            show xs.length - 1 + 1 = 130
            omega
          · rcases List.mem_append.mp hv with z | z
            · exact r5 v (List.mem_of_mem_eraseIdx z)
            · rw [List.mem_singleton.mp z]
              exact r5 _ (List.getElem_mem hk)
          · obtain ⟨g2, s2', h2, rest⟩ := bx.1
            exact ⟨g2, s2', by rw [upd_ne nb.symm, upd_ne nb.symm]; exact h2, rest⟩
      · rintro σ H5 ⟨xs, y5, rfl, e5, l5, r5, s5, b5⟩
        exact ⟨xs, _, _, _, _, _, rfl, e5, l5, r5, s5⟩
    · rintro σ H4 ⟨xs, y3, y4, y5, y6, y7, rfl, e4, l4, r4, s4⟩
      refine ⟨_, rfl, _, rfl, _, rfl, _, _, rfl, SqL.of e4, fun p1 hp1 => ?_⟩
      have n1 : D3 ≠ p1 := ne_of_none e4 hp1
      have lcut := cutV_len xs none (some 10)
      refine ⟨_, _, _, _, rfl, rfl, by rw [upd_ne n1]; exact e4, upd_same, sz (by omega), fun p2 hp2 => ?_⟩
      have sC := fun (o : HO) => (s4.trans (same_new (o := .lst (cutV xs none (some 10))) hp1)).trans (same_new (o := o) hp2)
      generalize hHC : upd (upd H4 p1 (.lst (cutV xs none (some 10)))) p2 (.lst (xs ++ cutV xs none (some 10))) = HC
      have sHC : Same HB HC := by rw [← hHC]; exact sC _
      have eC : HC p2 = some (.lst (xs ++ cutV xs none (some 10))) := by rw [← hHC]; exact upd_same
      have tC : LamX.Tabs (TT A.p_making_order) HC := fun z hz => by
        rw [List.mem_singleton.mp hz]
        exact LamX.TabS.nil (sHC _ _ (sHB _ _ hP))
      have tpC := sHC _ _ tpB
      have t0C := sHC _ _ t0B
      have t1C := sHC _ _ t1B
      refine ⟨p2, rfl, ⟨_, SqL.of eC⟩, for_list (K := K) (a := p2) (xs := xs ++ cutV xs none (some 10)) (fun i σ H' => ∃ (y6 y7 : Option V), σ = [some (.ref a), some (.ref tp), some (.ref D3), y3, y4, y5, y6, y7] ∧ LamX.ExtN HC H' ∧ LamX.Tabs (TT A.p_making_order) H')
        ⟨y6, y7, rfl, LamX.ExtN.refl _, tC⟩ (fun i σ H' _ ⟨_, _, _, eN, _⟩ => SqL.of (eN _ _ eC (fun ps z => by cases z))) ?_ ?_⟩
      · rintro i x σ H5 hx ⟨y6, y7, rfl, eN, T5⟩
        have mx := List.mem_of_getElem? hx
        obtain ⟨ta, d, r, rfl, hta, r64⟩ : RunAt HB x := by
          rcases List.mem_append.mp mx with z | z
          · exact r4 x z
          · exact r4 x (cutV_mem z)
        have hta5 := eN _ _ (sHC _ _ hta) (fun ps z => by cases z)
        refine ⟨ta, _, rfl, .inl (.inl hta5), rfl, _, _, rfl, _, _, rfl, rfl, ?_⟩
        refine ⟨_, rfl, _, rfl, d, r, _, rfl, rfl, r64, T5, fun H6 eN6 T6 => ?_⟩
        have eA := eN.trans eN6
        refine ⟨_, rfl, _, rfl, _, rfl, tp, t0, t1, t2, d, r, _, rfl, rfl, r64, eA _ _ tpC (fun ps z => by cases z), eA _ _ t0C (fun ps z => by cases z), eA _ _ t1C (fun ps z => by cases z), rfl, _, rfl, ?_⟩
        rw [decide_eq_true rfl]
        exact ⟨_, _, rfl, eA, T6⟩
      · rintro σ H5 ⟨y6, y7, rfl, eN, T5⟩
        exact q _
end
theorem all_mk {l : PySem.W.OpenLaw} {w : World} {K : PySem.W.Frag} {h : Heap} {mg : Str → Option Value} {fa : Addr} (X : K.In h) (G : h.Ns mainGlobals mg) (hfa : mg "law" = some (.ref fa))
    {f0 f1 f2 f3 f4 f5 f6 f7 f8 f9 f10 f11 f12 : Addr}
    {od0 an0 od1 an1 od2 an2 od3 an3 od4 an4 od5 an5 od6 an6 od7 an7 od8 an8 od9 an9 od10 an10 od11 an11 od12 an12 : Option Addr}
    {sl0 sl1 sl2 sl3 sl4 sl5 sl6 sl7 sl8 sl9 sl10 sl11 sl12 : Array (Option Value)}
    {oc0 kV0 dc0 pm0 ct0 cd0 oc1 kV1 dc1 pm1 ct1 oc2 kV2 dc2 pm2 ct2 cd2 oc3 kV3 dc3 pm3 ct3 cd3 oc4 kV4 dc4 pm4 ct4 cd4 oc5 kV5 dc5 pm5 ct5 cd5 oc6 kV6 dc6 pm6 ct6 cd6 oc7 kV7 dc7 pm7 ct7 cd7 oc8 kV8 dc8 pm8 ct8 cd8 oc9 kV9 dc9 pm9 ct9 cd9 oc10 kV10 dc10 pm10 ct10 cd10 oc11 kV11 dc11 pm11 ct11 cd11 oc12 kV12 dc12 pm12 ct12 cd12 : Value}
    {t_ENDS : Tok}
    {t_LENGTHS : Addr}
    {t_MAKERS : Tok}
    {k_making_order p_making_order : Addr}
    {es_LENGTHS : Array DictEntry} {en_LENGTHS : Nat}
    {u_LENGTHS_0 : Addr} {dd_LENGTHS_0 : Option Addr} {us_LENGTHS_0 : List Value} {un_LENGTHS_0 : Nat} {ul_LENGTHS_0 : Array (Option Value)}
    {u_LENGTHS_1 : Addr} {dd_LENGTHS_1 : Option Addr} {us_LENGTHS_1 : List Value} {un_LENGTHS_1 : Nat} {ul_LENGTHS_1 : Array (Option Value)}
    (a0 : PySem.W.nsIn K mainGlobals "words_by" = some (some (.ref f0))) (l0 : K.lookup f0 = some ⟨oc0, od0, .func (PySem.W.fnOf "words_by" "words_by" (defArgs s_words_by) (defBody s_words_by) (defScope s_words_by) .none kV0 dc0 pm0 an0 cd0 ct0), sl0⟩) (c0 : PySem.W.codeIn K cd0 "words_by" = true) (k0 : PySem.W.keepIn K (.ref f0) = true)
    (a1 : PySem.W.nsIn K mainGlobals "making_order" = some (some (.ref f1))) (l1 : K.lookup f1 = some ⟨oc1, od1, .func (PySem.W.fnOf "making_order" "making_order" (defArgs s_making_order) (defBody s_making_order) (defScope s_making_order) .none kV1 dc1 pm1 an1 (.ref k_making_order) ct1), sl1⟩) (c1 : PySem.W.codeIn K (.ref k_making_order) "making_order" = true) (k1 : PySem.W.keepIn K (.ref f1) = true)
    (hT_making_order : h.get? p_making_order = some (PySem.W.tabObj #[])) (hd_making_order : PySem.W.codeHdIn K k_making_order p_making_order = true) (nT_making_order : K.lookup p_making_order = none)
    (a2 : PySem.W.nsIn K mainGlobals "one_less" = some (some (.ref f2))) (l2 : K.lookup f2 = some ⟨oc2, od2, .func (PySem.W.fnOf "one_less" "one_less" (defArgs s_one_less) (defBody s_one_less) (defScope s_one_less) .none kV2 dc2 pm2 an2 cd2 ct2), sl2⟩) (c2 : PySem.W.codeIn K cd2 "one_less" = true) (k2 : PySem.W.keepIn K (.ref f2) = true)
    (a3 : PySem.W.nsIn K mainGlobals "colour_words" = some (some (.ref f3))) (l3 : K.lookup f3 = some ⟨oc3, od3, .func (PySem.W.fnOf "colour_words" "colour_words" (defArgs s_colour_words) (defBody s_colour_words) (defScope s_colour_words) .none kV3 dc3 pm3 an3 cd3 ct3), sl3⟩) (c3 : PySem.W.codeIn K cd3 "colour_words" = true) (k3 : PySem.W.keepIn K (.ref f3) = true)
    (a4 : PySem.W.nsIn K mainGlobals "run_bits" = some (some (.ref f4))) (l4 : K.lookup f4 = some ⟨oc4, od4, .func (PySem.W.fnOf "run_bits" "run_bits" (defArgs s_run_bits) (defBody s_run_bits) (defScope s_run_bits) .none kV4 dc4 pm4 an4 cd4 ct4), sl4⟩) (c4 : PySem.W.codeIn K cd4 "run_bits" = true) (k4 : PySem.W.keepIn K (.ref f4) = true)
    (a5 : PySem.W.nsIn K mainGlobals "run_by" = some (some (.ref f5))) (l5 : K.lookup f5 = some ⟨oc5, od5, .func (PySem.W.fnOf "run_by" "run_by" (defArgs s_run_by) (defBody s_run_by) (defScope s_run_by) .none kV5 dc5 pm5 an5 cd5 ct5), sl5⟩) (c5 : PySem.W.codeIn K cd5 "run_by" = true) (k5 : PySem.W.keepIn K (.ref f5) = true)
    (a6 : PySem.W.nsIn K mainGlobals "_law_bag" = some (some (.ref f6))) (l6 : K.lookup f6 = some ⟨oc6, od6, .func (PySem.W.fnOf "_law_bag" "_law_bag" (defArgs s_bag) (defBody s_bag) (defScope s_bag) .none kV6 dc6 pm6 an6 cd6 ct6), sl6⟩) (c6 : PySem.W.codeIn K cd6 "_law_bag" = true) (k6 : PySem.W.keepIn K (.ref f6) = true)
    (a7 : PySem.W.nsIn K mainGlobals "_law_draw" = some (some (.ref f7))) (l7 : K.lookup f7 = some ⟨oc7, od7, .func (PySem.W.fnOf "_law_draw" "_law_draw" (defArgs s_draw) (defBody s_draw) (defScope s_draw) .none kV7 dc7 pm7 an7 cd7 ct7), sl7⟩) (c7 : PySem.W.codeIn K cd7 "_law_draw" = true) (k7 : PySem.W.keepIn K (.ref f7) = true)
    (a8 : PySem.W.nsIn K mainGlobals "_law_less" = some (some (.ref f8))) (l8 : K.lookup f8 = some ⟨oc8, od8, .func (PySem.W.fnOf "_law_less" "_law_less" (defArgs s_less) (defBody s_less) (defScope s_less) .none kV8 dc8 pm8 an8 cd8 ct8), sl8⟩) (c8 : PySem.W.codeIn K cd8 "_law_less" = true) (k8 : PySem.W.keepIn K (.ref f8) = true)
    (a9 : PySem.W.nsIn K mainGlobals "_law_words" = some (some (.ref f9))) (l9 : K.lookup f9 = some ⟨oc9, od9, .func (PySem.W.fnOf "_law_words" "_law_words" (defArgs s_words) (defBody s_words) (defScope s_words) .none kV9 dc9 pm9 an9 cd9 ct9), sl9⟩) (c9 : PySem.W.codeIn K cd9 "_law_words" = true) (k9 : PySem.W.keepIn K (.ref f9) = true)
    (a10 : PySem.W.nsIn K mainGlobals "_law_tables" = some (some (.ref f10))) (l10 : K.lookup f10 = some ⟨oc10, od10, .func (PySem.W.fnOf "_law_tables" "_law_tables" (defArgs s_tables) (defBody s_tables) (defScope s_tables) .none kV10 dc10 pm10 an10 cd10 ct10), sl10⟩) (c10 : PySem.W.codeIn K cd10 "_law_tables" = true) (k10 : PySem.W.keepIn K (.ref f10) = true)
    (a11 : PySem.W.nsIn K mainGlobals "_law_run" = some (some (.ref f11))) (l11 : K.lookup f11 = some ⟨oc11, od11, .func (PySem.W.fnOf "_law_run" "_law_run" (defArgs s_run) (defBody s_run) (defScope s_run) .none kV11 dc11 pm11 an11 cd11 ct11), sl11⟩) (c11 : PySem.W.codeIn K cd11 "_law_run" = true) (k11 : PySem.W.keepIn K (.ref f11) = true)
    (a12 : PySem.W.nsIn K mainGlobals "law" = some (some (.ref f12))) (l12 : K.lookup f12 = some ⟨oc12, od12, .func (PySem.W.fnOf "law" "law" (defArgs s_law) (defBody s_law) (defScope s_law) .none kV12 dc12 pm12 an12 cd12 ct12), sl12⟩) (c12 : PySem.W.codeIn K cd12 "law" = true) (k12 : PySem.W.keepIn K (.ref f12) = true)
    (z_abs : PySem.W.nsIn K mainGlobals "abs" = some none)
    (z_int : PySem.W.nsIn K mainGlobals "int" = some none)
    (z_len : PySem.W.nsIn K mainGlobals "len" = some none)
    (z_list : PySem.W.nsIn K mainGlobals "list" = some none)
    (z_min : PySem.W.nsIn K mainGlobals "min" = some none)
    (z_range : PySem.W.nsIn K mainGlobals "range" = some none)
    (z_sorted : PySem.W.nsIn K mainGlobals "sorted" = some none)
    (m_ENDS : PySem.W.nsIn K mainGlobals "ENDS" = some (some (.int 16 t_ENDS)))
    (m_LENGTHS : PySem.W.nsIn K mainGlobals "LENGTHS" = some (some (.ref t_LENGTHS)))
    (m_MAKERS : PySem.W.nsIn K mainGlobals "MAKERS" = some (some (.int 4 t_MAKERS)))
    (dl_LENGTHS : K.lookup t_LENGTHS = some ⟨.type "dict", none, .dict es_LENGTHS en_LENGTHS, #[]⟩) (dk_LENGTHS : PySem.W.KeysLit w.params es_LENGTHS.toList)
    (de_LENGTHS_0 : PySem.W.nsIn K t_LENGTHS (Str.ofString ".") = some (some (.ref u_LENGTHS_0))) (dt_LENGTHS_0 : K.lookup u_LENGTHS_0 = some ⟨.type "tuple", dd_LENGTHS_0, .seq us_LENGTHS_0.toArray un_LENGTHS_0, ul_LENGTHS_0⟩) (dv_LENGTHS_0 : Vals [.int 6, .int 4, .int 4, .int 4, .int 4, .int 4, .int 5, .int 5, .int 5, .int 5, .int 6, .int 6, .int 6, .int 6, .int 6, .int 6, .int 4, .int 5, .int 6, .int 4] us_LENGTHS_0)
    (de_LENGTHS_1 : PySem.W.nsIn K t_LENGTHS (Str.ofString "#") = some (some (.ref u_LENGTHS_1))) (dt_LENGTHS_1 : K.lookup u_LENGTHS_1 = some ⟨.type "tuple", dd_LENGTHS_1, .seq us_LENGTHS_1.toArray un_LENGTHS_1, ul_LENGTHS_1⟩) (dv_LENGTHS_1 : Vals [.int 7, .int 2, .int 3, .int 3, .int 4, .int 4, .int 5, .int 5, .int 5, .int 6, .int 6, .int 6, .int 7, .int 7, .int 7, .int 7, .int 6, .int 7, .int 7, .int 7] us_LENGTHS_1)
    : LamX.LawAtS l w K CX0 5 63 "_law_script" mg fa h := by
  have e := hfa.symm.trans (PySem.W.mg_of X G a12)
  cases e
  have F0 := fun_mk (st := s_words_by) l0 c0 k0
  have b0 := F0.binds (ps := P_words_by) fun _ _ _ _ _ _ us hl => match us, hl with | [_], _ => rfl
  have F1 := fun_mk (st := s_making_order) l1 c1 k1
  have b1 := F1.binds (ps := P_making_order) fun _ _ _ _ _ _ us hl => match us, hl with | [_], _ => rfl
  have F2 := fun_mk (st := s_one_less) l2 c2 k2
  have b2 := F2.binds (ps := P_one_less) fun _ _ _ _ _ _ us hl => match us, hl with | [_], _ => rfl
  have F3 := fun_mk (st := s_colour_words) l3 c3 k3
  have b3 := F3.binds (ps := P_colour_words) fun _ _ _ _ _ _ us hl => match us, hl with | [_], _ => rfl
  have F4 := fun_mk (st := s_run_bits) l4 c4 k4
  have b4 := F4.binds (ps := P_run_bits) fun _ _ _ _ _ _ us hl => match us, hl with | [_, _], _ => rfl
  have F5 := fun_mk (st := s_run_by) l5 c5 k5
  have b5 := F5.binds (ps := P_run_by) fun _ _ _ _ _ _ us hl => match us, hl with | [_, _], _ => rfl
  have F6 := fun_mk (st := s_bag) l6 c6 k6
  have b6 := F6.binds (ps := P_bag) fun _ _ _ _ _ _ us hl => match us, hl with | [_, _], _ => rfl
  have F7 := fun_mk (st := s_draw) l7 c7 k7
  have b7 := F7.binds (ps := P_draw) fun _ _ _ _ _ _ us hl => match us, hl with | [_, _], _ => rfl
  have F8 := fun_mk (st := s_less) l8 c8 k8
  have b8 := F8.binds (ps := P_less) fun _ _ _ _ _ _ us hl => match us, hl with | [_], _ => rfl
  have F9 := fun_mk (st := s_words) l9 c9 k9
  have b9 := F9.binds (ps := P_words) fun _ _ _ _ _ _ us hl => match us, hl with | [_], _ => rfl
  have F10 := fun_mk (st := s_tables) l10 c10 k10
  have b10 := F10.binds (ps := P_tables) fun _ _ _ _ _ _ us hl => match us, hl with | [], _ => rfl
  have F11 := fun_mk (st := s_run) l11 c11 k11
  have b11 := F11.binds (ps := P_run) fun _ _ _ _ _ _ us hl => match us, hl with | [_, _, _], _ => rfl
  have F12 := fun_mk (st := s_law) l12 c12 k12
  refine ⟨PySem.W.fnOf "law" "law" (defArgs s_law) (defBody s_law) (defScope s_law) .none kV12 dc12 pm12 an12 cd12 ct12, [(k_making_order, p_making_order)], spLaw K p_making_order, ?_, ?_, ?_, fun s v => .of_eq rfl, ?_, fun base kb nb tb => ?_⟩
  · intro q hq; rw [List.mem_singleton.mp hq]; exact hT_making_order
  · intro q hq; rw [List.mem_singleton.mp hq]; exact nT_making_order
  · intro q hq; rw [List.mem_singleton.mp hq]; exact PySem.W.codeHd_of_K X hd_making_order
  · exact fun H a ns hl _ hH hS => ⟨a, ns, rfl, hS, hl, hH _ (List.mem_singleton.mpr rfl), fun _ => rfl⟩
  · exact ok_law (A := ⟨f0, _, f1, _, f2, _, f3, _, f4, _, f5, _, f6, _, f7, _, f8, _, f9, _, f10, _, f11, _, fa, _, t_ENDS, t_LENGTHS, t_MAKERS, k_making_order, p_making_order, u_LENGTHS_0, u_LENGTHS_1⟩) ⟨F0, b0, PySem.W.mg_of X G a0, F1, b1, PySem.W.mg_of X G a1, F2, b2, PySem.W.mg_of X G a2, F3, b3, PySem.W.mg_of X G a3, F4, b4, PySem.W.mg_of X G a4, F5, b5, PySem.W.mg_of X G a5, F6, b6, PySem.W.mg_of X G a6, F7, b7, PySem.W.mg_of X G a7, F8, b8, PySem.W.mg_of X G a8, F9, b9, PySem.W.mg_of X G a9, F10, b10, PySem.W.mg_of X G a10, F11, b11, PySem.W.mg_of X G a11, F12, PySem.W.mg_of X G a12, tb _ (List.mem_singleton.mpr rfl), ⟨_, _, _, _, _, _, _, _, l1, c1⟩, ⟨_, _, _, dl_LENGTHS, dk_LENGTHS, de_LENGTHS_0, rfl⟩, fun H => .inr ⟨_, us_LENGTHS_0.toArray, _, dt_LENGTHS_0, rfl, rfl, by rw [List.size_toArray, ← dv_LENGTHS_0.length]; exact sz (by decide), by simpa using dv_LENGTHS_0⟩, ⟨_, _, _, dl_LENGTHS, dk_LENGTHS, de_LENGTHS_1, rfl⟩, fun H => .inr ⟨_, us_LENGTHS_1.toArray, _, dt_LENGTHS_1, rfl, rfl, by rw [List.size_toArray, ← dv_LENGTHS_1.length]; exact sz (by decide), by simpa using dv_LENGTHS_1⟩, PySem.W.mg_none_of X G z_abs, PySem.W.mg_none_of X G z_int, PySem.W.mg_none_of X G z_len, PySem.W.mg_none_of X G z_list, PySem.W.mg_none_of X G z_min, PySem.W.mg_none_of X G z_range, PySem.W.mg_none_of X G z_sorted, PySem.W.mg_of X G m_ENDS, PySem.W.mg_of X G m_LENGTHS, PySem.W.mg_of X G m_MAKERS⟩
end K07
open PySem PySem.W PyProof.Rows
set_option maxHeartbeats 0 in
theorem PySem.Challenge.cw_farpage_k07_run_bits_holds : PySem.Challenge.rw_farpage_k07_run_bits.Holds := by
  w_on; o_law; k_head; (case hw => w_witness2)
  k_fill
  refine LamX.walk_ofTs (l := PySem.Challenge.rw_farpage_k07_run_bits) (n := 63) (k := 5) (x := "_law_script") (CX := fun _ => L2.CX0) rfl (by decide) rfl ⟨rfl, by decide, by decide⟩ (fun w h Y => PySem.W.km_in_of Y) ?F (fun _ _ _ _ _ h => h)
  case F =>
    intro w mg fa h Y KX G hmg
    have tabs := PySem.W.km_tabs_of Y
    refine' K07.all_mk KX G hmg ?a0 ?l0 ?c0 ?k0 ?a1 ?l1 ?c1 ?k1 ?hT_making_order ?hd_making_order ?nT_making_order ?a2 ?l2 ?c2 ?k2 ?a3 ?l3 ?c3 ?k3 ?a4 ?l4 ?c4 ?k4 ?a5 ?l5 ?c5 ?k5 ?a6 ?l6 ?c6 ?k6 ?a7 ?l7 ?c7 ?k7 ?a8 ?l8 ?c8 ?k8 ?a9 ?l9 ?c9 ?k9 ?a10 ?l10 ?c10 ?k10 ?a11 ?l11 ?c11 ?k11 ?a12 ?l12 ?c12 ?k12 ?z_abs ?z_int ?z_len ?z_list ?z_min ?z_range ?z_sorted ?m_ENDS ?m_LENGTHS ?m_MAKERS ?dl_LENGTHS ?dk_LENGTHS ?de_LENGTHS_0 ?dt_LENGTHS_0 ?dv_LENGTHS_0 ?de_LENGTHS_1 ?dt_LENGTHS_1 ?dv_LENGTHS_1
    (case a0 => k_is)
    (case l0 => k_is)
    (case c0 => k_is)
    (case k0 => k_is)
    (case a1 => k_is)
    (case l1 => k_is)
    (case c1 => k_is)
    (case k1 => k_is)
    (case hT_making_order => exact tabs _ (List.mem_singleton.mpr rfl))
    (case hd_making_order => first | k_is | exact rfl | kernel_rfl)
    (case nT_making_order => first | exact rfl | kernel_rfl)
    (case a2 => k_is)
    (case l2 => k_is)
    (case c2 => k_is)
    (case k2 => k_is)
    (case a3 => k_is)
    (case l3 => k_is)
    (case c3 => k_is)
    (case k3 => k_is)
    (case a4 => k_is)
    (case l4 => k_is)
    (case c4 => k_is)
    (case k4 => k_is)
    (case a5 => k_is)
    (case l5 => k_is)
    (case c5 => k_is)
    (case k5 => k_is)
    (case a6 => k_is)
    (case l6 => k_is)
    (case c6 => k_is)
    (case k6 => k_is)
    (case a7 => k_is)
    (case l7 => k_is)
    (case c7 => k_is)
    (case k7 => k_is)
    (case a8 => k_is)
    (case l8 => k_is)
    (case c8 => k_is)
    (case k8 => k_is)
    (case a9 => k_is)
    (case l9 => k_is)
    (case c9 => k_is)
    (case k9 => k_is)
    (case a10 => k_is)
    (case l10 => k_is)
    (case c10 => k_is)
    (case k10 => k_is)
    (case a11 => k_is)
    (case l11 => k_is)
    (case c11 => k_is)
    (case k11 => k_is)
    (case a12 => k_is)
    (case l12 => k_is)
    (case c12 => k_is)
    (case k12 => k_is)
    (case z_abs => k_is)
    (case z_int => k_is)
    (case z_len => k_is)
    (case z_list => k_is)
    (case z_min => k_is)
    (case z_range => k_is)
    (case z_sorted => k_is)
    (case m_ENDS => k_is)
    (case m_LENGTHS => k_is)
    (case m_MAKERS => k_is)
    (case dl_LENGTHS => k_is)
    (case dk_LENGTHS => k_keys)
    (case de_LENGTHS_0 => k_is)
    (case dt_LENGTHS_0 => k_is)
    (case dv_LENGTHS_0 => repeat (first | exact .nil | refine .cons ⟨_, rfl⟩ ?_))
    (case de_LENGTHS_1 => k_is)
    (case dt_LENGTHS_1 => k_is)
    (case dv_LENGTHS_1 => repeat (first | exact .nil | refine .cons ⟨_, rfl⟩ ?_))
