import PyProof.Rows.All
import Wide.All
import OpenK.AllK
import Wide.FinOn
import HandS.ForMost
import HandS.IsInst
import HandS.StrMore
import HandS.Codes
import HandS.Evl
import HandS.TupAny
import HandS.TupMul
import HandS.Walk
import PyProof.Rows.StrJoinRep
import HandS.More
import HandS.TryOnly
import PySem.Challenge.RW_farpage_k12_steps_by_the_row_above
set_option Elab.async false
set_option linter.all false
set_option maxRecDepth 100000
set_option maxHeartbeats 4000000
/-! Rules of our own over the hand layer: a sign times an int, list(text), ljust with a sign. -/
namespace Fp
open PySem L2 PyProof.Rows
/-- a text by its codes -/
def sOf (l : List Nat) : Str := ⟨l.toArray⟩
theorem sOf_list (l : List Nat) : (sOf l).cps.toList = l := by simp [sOf]
theorem sOf_len (l : List Nat) : (sOf l).length = l.length := by simp [sOf, Str.length]
theorem of_list {z : Str} {l : List Nat} (h : z.cps.toList = l) : z = sOf l := str_of_list (by rw [h, sOf_list])
theorem sOf_inj {l m : List Nat} (h : sOf l = sOf m) : l = m := by
  have := congrArg (fun z => z.cps.toList) h
  simpa [sOf] using this
theorem sOf_app (l m : List Nat) : sOf l ++ sOf m = sOf (l ++ m) := by
  apply of_list
  show ((sOf l) ++ (sOf m)).cps.toList = l ++ m
  rw [show ((sOf l) ++ (sOf m)).cps = (sOf l).cps ++ (sOf m).cps from rfl]
  simp [sOf]
section
variable {X : Cx}
theorem op_mul_str : OpR X (binaryOp .Mult) (fun x y H Q => ∃ c n, x = .str (sOf [c]) ∧ y = .int n ∧ (-100000 ≤ n ∧ n ≤ 100000) ∧ Q (.str (sOf (List.replicate n.toNat c))) H) := by
  intro pins s σ H x y v u Q I rx ry h
  obtain ⟨c, n, rfl, rfl, hz, q⟩ := h
  obtain ⟨t, rfl⟩ := rx
  obtain ⟨t', rfl⟩ := ry
  refine SB.mul (mulOk_of 1 100000 (by rw [sOf_len]; exact Nat.le_refl _) (by omega) (by omega) (by decide) (by decide)) fun t' k => ?_
  have e : Txt.mul (sOf [c]) n = sOf (List.replicate n.toNat c) := of_list (mul_one_list c n)
  rw [e]
  exact ⟨.str (sOf (List.replicate n.toNat c)), H, I.tok _, ⟨_, rfl⟩, q⟩
theorem padOk {i : Int} (h0 : 0 ≤ i) (h1 : i ≤ 100000) : PadOk i = true := padOk_of (by omega) (by omega)
theorem mt_ljustF : MtR X "str.ljust" (fun x xs H Q => ∃ (l : List Nat) (i : Int) (c : Nat), x = .str (sOf l) ∧ xs = [.int i, .str (sOf [c])] ∧ (0 ≤ i ∧ i ≤ 100000) ∧ Q (.str (sOf (l ++ List.replicate (i.toNat - l.length) c))) H) := by
  intro pins s σ H x xs v us Q I rx rs h
  obtain ⟨l, i, c, rfl, rfl, hz, q⟩ := h
  obtain ⟨t, rfl⟩ := rx
  obtain ⟨u, w', rfl, ⟨t', rfl⟩, ⟨t'', rfl⟩⟩ := vals2 rs
  refine ljust_fill (padOk hz.1 hz.2) (sOf_len _) fun t' k => ?_
  have e : Txt.ljustF (sOf l) i ((sOf [c]).cps.getD 0 0) = sOf (l ++ List.replicate (i.toNat - l.length) c) := of_list (by
    rw [ljustF_list, sOf_list, sOf_len]
    rfl)
  rw [e]
  exact ⟨.str (sOf (l ++ List.replicate (i.toNat - l.length) c)), H, I.tok _, ⟨_, rfl⟩, q⟩
theorem vals_signs {acc : List Value} {l : List Nat} (h1 : acc.length = l.length) (h2 : ∀ (j : Nat) v, acc[j]? = some v → ∃ c u, l[j]? = some c ∧ v = .str ⟨#[c]⟩ u) : Vals (l.map fun c => V.str (sOf [c])) acc := by
  induction l generalizing acc with
  | nil =>
    cases acc with
    | nil => exact .nil
    | cons a r => simp at h1
  | cons c r ih =>
    cases acc with
    | nil => simp at h1
    | cons a b =>
      obtain ⟨c', u, e, rfl⟩ := h2 0 a rfl
      have e2 : c' = c := by simpa using e.symm
      subst e2
      exact .cons ⟨u, rfl⟩ (ih (by simpa using h1) fun j v hj => h2 (j + 1) v hj)
theorem call_list_str (hc : X.calm = true) : CallR X (.type "list") (fun xs H Q => ∃ z : List Nat, xs = [.str (sOf z)] ∧ z.length ≤ 100000 ∧ ∀ l, H l = none → Q (.ref l) (upd H l (.lst (z.map fun c => V.str (sOf [c]))))) := by
  intro pins s σ H xs us Q I r h
  obtain ⟨z, rfl, hz, q⟩ := h
  obtain ⟨u, rfl, t, rfl⟩ := vals1 r
  have hl : z.length ≤ sizeLine := Nat.le_trans hz (by decide)
  refine PySem.call_list_str (I.ok.hd hc) (sOf z) t (hn := by show (sOf z).length ≤ sizeLine; rw [sOf_len]; exact hl) fun h' tk acc' c' hk hS' hacc => ?_
  have r' : Vals (z.map fun c => V.str (sOf [c])) acc'.toList := vals_signs (by have := hacc.1; simpa [sOf] using this) fun j v hj => by
    obtain ⟨c, u, e, rfl⟩ := hacc.2 j v (by simpa using hj)
    exact ⟨c, u, by simpa [sOf] using e, rfl⟩
  exact ⟨.ref s.heap.objs.size, _, I.laid (t' := tk) hk (Nat.le_refl _) (show ObjOk X.prog X.w _ h' _ (.lst _) from ⟨by rw [List.length_map]; exact hl, acc'.toList, c', r', by simpa using hS'⟩), rfl, q _ (I.hok.fresh (Nat.le_refl _))⟩
end
/-! ### heaps -/
theorem same_new {H : Hp} {p : Addr} {o : HO} (h : H p = none) : Same H (upd H p o) := fun b x e => by
  rw [upd_ne (ne_of_none e h)]
  exact e
/-- what is new may change -/
theorem Same.mut {H H' : Hp} {p : Addr} {o : HO} (e : Same H H') (h : H p = none) : Same H (upd H' p o) := fun b x hb => by
  rw [upd_ne (ne_of_none hb h)]
  exact e b x hb
/-- a bag of the laws' draws -/
def BagAt (H : Hp) (b : Addr) : Prop := ∃ g s : Int, H b = some (.lst [.int g, .int s]) ∧ 0 ≤ g ∧ 0 ≤ s ∧ s < 1000000000000
/-- the bag has turned, what else stood stands -/
def Bx (b : Addr) (H H' : Hp) : Prop := BagAt H' b ∧ ∀ a o, a ≠ b → H a = some o → H' a = some o
theorem Bx.refl {b : Addr} {H : Hp} (h : BagAt H b) : Bx b H H := ⟨h, fun _ _ _ e => e⟩
theorem Bx.trans {b : Addr} {H H1 H2 : Hp} (x : Bx b H H1) (y : Bx b H1 H2) : Bx b H H2 := ⟨y.1, fun a o n e => y.2 a o n (x.2 a o n e)⟩
theorem Bx.drawn {b : Addr} {H : Hp} {g s : Int} (g0 : 0 ≤ g) (s0 : 0 ≤ s) (s1 : s < 1000000000000) : Bx b H (upd H b (.lst [.int g, .int s])) := ⟨⟨g, s, upd_same, g0, s0, s1⟩, fun a o n e => by
  rw [upd_ne n]
  exact e⟩
theorem Bx.same {b : Addr} {H H1 H2 : Hp} (x : Bx b H H1) (y : Same H1 H2) : Bx b H H2 := by
  obtain ⟨⟨g, s, h, r⟩, k⟩ := x
  exact ⟨⟨g, s, y _ _ h, r⟩, fun a o n e => y _ _ (k a o n e)⟩
/-- from before the bag was made -/
theorem Bx.back {b : Addr} {H0 H H' : Hp} (x : Bx b H H') (y : Same H0 H) (n : H0 b = none) : Same H0 H' := fun a o e => x.2 a o (ne_of_none e n) (y a o e)
theorem Bx.mut {b p : Addr} {H H' : Hp} {o : HO} (x : Bx b H H') (hp : H p = none) (n : p ≠ b) : Bx b H (upd H' p o) := by
  obtain ⟨⟨g, s, h, r⟩, k⟩ := x
  refine ⟨⟨g, s, by rw [upd_ne n.symm]; exact h, r⟩, fun a u m e => ?_⟩
  rw [upd_ne (ne_of_none e hp)]
  exact k a u m e
theorem Bx.free {b p : Addr} {H H' : Hp} (x : Bx b H H') (h : H' p = none) : H p = none := by
  have n : p ≠ b := by
    obtain ⟨g, s, e, _⟩ := x.1
    exact (ne_of_none e h).symm
  cases q : H p with
  | none => rfl
  | some o =>
    rw [x.2 p o n q] at h
    cases h
theorem BagAt.new {H : Hp} {p : Addr} {g s : Int} (g0 : 0 ≤ g) (s0 : 0 ≤ s) (s1 : s < 1000000000000) : BagAt (upd H p (.lst [.int g, .int s])) p := ⟨g, s, upd_same, g0, s0, s1⟩
theorem BagAt.ne {H : Hp} {b p : Addr} (h : BagAt H b) (n : H p = none) : p ≠ b := by
  obtain ⟨g, s, e, _⟩ := h
  exact (ne_of_none e n).symm
/-- a list's own address is no bag's where its items are texts -/
def cells (l : List Nat) : List V := l.map fun c => V.str (sOf [c])
theorem cells_len (l : List Nat) : (cells l).length = l.length := List.length_map ..
theorem cells_set (l : List Nat) (j c : Nat) : (cells l).set j (.str (sOf [c])) = cells (l.set j c) := by
  unfold cells
  rw [List.map_set]
theorem cells_app (l : List Nat) (c : Nat) : cells l ++ [.str (sOf [c])] = cells (l ++ [c]) := by
  unfold cells
  rw [List.map_append]
  rfl
/-- the cells of rows -/
def Cell (c : Nat) : Prop := c = 46 ∨ c = 35
def Row (l : List Nat) : Prop := ∀ c ∈ l, Cell c
theorem Row.set {l : List Nat} {j c : Nat} (h : Row l) (hc : Cell c) : Row (l.set j c) := fun x hx => by
  rcases List.mem_or_eq_of_mem_set hx with e | e
  · exact h x e
  · rw [e]
    exact hc
theorem Row.app {l : List Nat} {c : Nat} (h : Row l) (hc : Cell c) : Row (l ++ [c]) := fun x hx => by
  rcases List.mem_append.mp hx with e | e
  · exact h x e
  · rw [List.mem_singleton.mp e]
    exact hc
theorem Row.rep {n c : Nat} (hc : Cell c) : Row (List.replicate n c) := fun x hx => by
  rw [(List.mem_replicate.mp hx).2]
  exact hc
theorem Row.nil : Row [] := fun _ h => nomatch h
def cellN (i : Int) : Nat := if i = 0 then 46 else 35
theorem cellN_cell (i : Int) : Cell (cellN i) := by
  unfold cellN
  split
  · exact .inl rfl
  · exact .inr rfl
theorem cell_at {i : Int} (h0 : 0 ≤ i) (h1 : i < 2) : atI (Str.ofString ".#").cps.toList i = some (cellN i) := by
  have : i = 0 ∨ i = 1 := by omega
  rcases this with rfl | rfl <;> rfl
theorem two_len : (Str.ofString ".#").length ≤ sizeLine := by decide
theorem sz {n : Nat} (h : n ≤ 100000) : n ≤ sizeLine := Nat.le_trans h (by decide)
theorem szl {n : Nat} (h : n < 100000) : n < sizeLine := Nat.lt_of_lt_of_le h (by decide)
theorem sIx_nat' (n d a : Nat) : HT.sIx n d (some (a : Int)) = min a n := HT.sIx_nat n d a
theorem cutS_nat (l : List Nat) (a b : Nat) (ha : a ≤ l.length) (hb : b ≤ l.length) : cutS (sOf l) (some (a : Int)) (some (b : Int)) = sOf ((l.drop a).take (b - a)) := by
  unfold cutS
  rw [HT.sIx_nat, HT.sIx_nat, sOf_len, sOf_list, Nat.min_eq_left ha, Nat.min_eq_left hb]
  rfl
theorem take_more {α : Type} (l : List α) (i : Nat) (x : α) (h : l[i]? = some x) : l.take (i + 1) = l.take i ++ [x] := by
  rw [List.take_add_one, h]
  rfl
theorem range_more {α : Type} (f : Nat → α) (i : Nat) : (List.range (i + 1)).map f = (List.range i).map f ++ [f i] := by
  rw [List.range_succ, List.map_append]
  rfl
theorem join_cells : ∀ l : List Nat, Txt.join (Str.ofString "") (l.map fun c => sOf [c]) = sOf l := by
  intro l
  show Builtin.Str.glued (Str.ofString "") (l.map fun c => sOf [c]) = sOf l
  rw [StrLaws.glued_eq_join]
  induction l with
  | nil => rfl
  | cons c r ih =>
    cases r with
    | nil => rfl
    | cons d r =>
      show sOf [c] ++ Str.ofString "" ++ Str.join (Str.ofString "") (List.map (fun c => sOf [c]) (d :: r)) = sOf (c :: d :: r)
      rw [ih, show (Str.ofString "") = sOf [] from rfl, sOf_app, sOf_app]
      rfl
theorem cells_strs (l : List Nat) : cells l = (l.map fun c => sOf [c]).map V.str := by
  rw [List.map_map]
  rfl
theorem ones_sum (l : List Nat) : ((l.map fun c => sOf [c]).map (·.length)).sum = l.length := by
  induction l with
  | nil => rfl
  | cons c r ih =>
    rw [List.map_cons, List.map_cons, List.sum_cons, ih, sOf_len, List.length_cons]
    show 1 + r.length = r.length + 1
    omega
theorem join_size {l : List Nat} (h : l.length ≤ 100000) : ((l.map fun c => sOf [c]).map (·.length)).sum + (l.map fun c => sOf [c]).length * (Str.ofString "").length ≤ 16777216 := by
  rw [ones_sum, show (Str.ofString "").length = 0 from rfl]
  omega
theorem rep_one (n : Nat) (c : Nat) : (List.replicate n [V.str (sOf [c])]).flatten = cells (List.replicate n c) := by
  induction n with
  | zero => rfl
  | succ k ih =>
    rw [List.replicate_succ, List.flatten_cons, ih, List.replicate_succ]
    rfl

/-! ### lists and tuples of texts -/
def sV (l : List Nat) : V := .str (sOf l)
def sD (l : List Nat) : PyData := .str (sOf l)
theorem dp_rows {K : PySem.W.Frag} {H : Hp} : ∀ rows : List (List Nat), DpAll K H (rows.map sV) (rows.map sD)
  | [] => .nil
  | r :: rs => .cons (.str _) (dp_rows rs)
def Codes (l : List Nat) : Prop := ∀ c ∈ l, c < 128
theorem strOk_of {l : List Nat} (h : Codes l) : PyData.strOk (sOf l) = true := by
  unfold PyData.strOk sOf
  rw [Array.all_eq_true']
  intro c hc
  have h2 := h c (by simpa using hc)
  exact decide_eq_true (by omega)
theorem lay_rows : ∀ {rows : List (List Nat)}, (∀ r ∈ rows, Codes r) → PyData.canLayAll0 (rows.map sD) = true
  | [], _ => by simp [PyData.canLayAll0]
  | r :: rs, h => by
    have h1 : PyData.canLay0 (sD r) = true := by
      show PyData.canLay0 (.str (sOf r)) = true
      simp only [PyData.canLay0]
      exact strOk_of (h r (List.mem_cons_self ..))
    have h2 := lay_rows (rows := rs) fun x hx => h x (List.mem_cons_of_mem _ hx)
    simp only [List.map_cons, PyData.canLayAll0, h1, h2, Bool.and_true]
theorem depth_rows : ∀ rows : List (List Nat), PyData.depthAll (rows.map sD) = 0
  | [] => by simp [PyData.depthAll]
  | r :: rs => by
    have h := depth_rows rs
    simp only [List.map_cons, PyData.depthAll, h, sD, PyData.depth]
    rfl
theorem shaped_tup {rows : List (List Nat)} (h : ∀ r ∈ rows, Codes r) : SeqAt.shaped (.tuple (rows.map sD)) = true := by
  show (PyData.canLay0 (.tuple (rows.map sD)) && decide (PyData.depth (.tuple (rows.map sD)) ≤ 64)) = true
  rw [Bool.and_eq_true]
  refine ⟨by simp only [PyData.canLay0]; exact lay_rows h, decide_eq_true ?_⟩
  simp only [PyData.depth, depth_rows]
  omega
theorem shaped_lst {rows : List (List Nat)} (h : ∀ r ∈ rows, Codes r) : SeqAt.shaped (.list (rows.map sD)) = true := by
  show (PyData.canLay0 (.list (rows.map sD)) && decide (PyData.depth (.list (rows.map sD)) ≤ 64)) = true
  rw [Bool.and_eq_true]
  refine ⟨by simp only [PyData.canLay0]; exact lay_rows h, decide_eq_true ?_⟩
  simp only [PyData.depth, depth_rows]
  omega
theorem eqv_tup {rows : List (List Nat)} (h : ∀ r ∈ rows, Codes r) : PyData.eqv (.tuple (rows.map sD)) (.tuple (rows.map sD)) = true := SeqAt.eqv_refl _ (by simp only [PyData.canLay0]; exact lay_rows h)
theorem eqv_lst {rows : List (List Nat)} (h : ∀ r ∈ rows, Codes r) : PyData.eqv (.list (rows.map sD)) (.list (rows.map sD)) = true := SeqAt.eqv_refl _ (by simp only [PyData.canLay0]; exact lay_rows h)
theorem Row.codes {l : List Nat} (h : Row l) : Codes l := fun c hc => by
  rcases h c hc with e | e <;> rw [e] <;> decide
theorem same_t {K : PySem.W.Frag} {H H' : Hp} {a : Addr} {xs : List V} (e : Same H H') (h : SqT K H a xs) : SqT K H' a xs := Evl.ex_t e h
theorem cut1 (xs : List V) : cutV xs (some 1) none = xs.drop 1 := by
  unfold cutV
  rw [show HT.sIx xs.length 0 (some 1) = min 1 xs.length from HT.sIx_nat xs.length 0 1, HT.sIx_none]
  cases xs with
  | nil => rfl
  | cons x r =>
    rw [show min 1 (x :: r).length = 1 by
      rw [List.length_cons]
      omega]
    show (List.take ((x :: r).length - 1) r) = r
    rw [List.length_cons, Nat.add_sub_cancel]
    exact List.take_length

/-! ### tuples of any kind, texts times an int -/
section
variable {X : Cx}
theorem cutV_whole {xs : List V} {lo hi : Option Int} (h : HT.sIx xs.length 0 lo = 0 ∧ HT.sIx xs.length xs.length hi = xs.length) : cutV xs lo hi = xs := by
  unfold cutV
  rw [h.1, h.2]
  show (xs.drop 0).take (xs.length - 0) = xs
  rw [List.drop_zero, Nat.sub_zero, List.take_length]
theorem sl_tupW : SlR X (fun x lo hi H Q => ∃ a xs, x = .ref a ∧ H a = some (.tup xs) ∧ ∀ q H', Same H H' → H' q = some (.tup (cutV xs lo hi)) → Q (.ref q) H') := by
  intro pins s σ H x v vl vu lo hi sl Q I rx hs pl pu h
  obtain ⟨a, xs, rfl, hx, q⟩ := h
  refine sl_tupA pins s σ H _ v vl vu lo hi sl Q I rx hs pl pu ⟨a, xs, rfl, .inl (.inl hx), fun e => ?_, fun e p hp => ?_⟩
  · exact q a H (Same.refl H) (by rw [cutV_whole e]; exact hx)
  · exact q p _ (same_new hp) upd_same
theorem op_catW : OpR X (binaryOp .Add) (fun x y H Q => ∃ a b xs ys, x = .ref a ∧ y = .ref b ∧ H a = some (.tup xs) ∧ H b = some (.tup ys) ∧ xs.length + ys.length ≤ 100000 ∧ ∀ q H', Same H H' → H' q = some (.tup (xs ++ ys)) → Q (.ref q) H') := by
  intro pins s σ H x y v u Q I rx ry h
  obtain ⟨a, b, xs, ys, rfl, rfl, ha, hb, hz, q⟩ := h
  refine op_catA pins s σ H _ _ v u Q I rx ry ⟨a, b, xs, ys, rfl, rfl, .inl (.inl ha), .inl (.inl hb), sz hz, fun e => ?_, fun _ e => ?_, fun _ _ p hp => ?_⟩
  · subst e
    exact q b H (Same.refl H) hb
  · subst e
    exact q a H (Same.refl H) (by rw [List.append_nil]; exact ha)
  · exact q p _ (same_new hp) upd_same
theorem op_mul_txt : OpR X (binaryOp .Mult) (fun x y H Q => ∃ (z : Str) (n : Int), x = .str z ∧ y = .int n ∧ (0 ≤ n ∧ n ≤ 1000 ∧ z.length ≤ 1000) ∧ ∀ m : Str, (m.length : Int) = (z.length : Int) * n → Q (.str m) H) := by
  intro pins s σ H x y v u Q I rx ry h
  obtain ⟨z, n, rfl, rfl, hz, q⟩ := h
  obtain ⟨t, rfl⟩ := rx
  obtain ⟨t', rfl⟩ := ry
  refine SB.mul (mulOk_of 1000 1000 hz.2.2 (by omega) (by omega) (by decide) (by decide)) fun t' k => ?_
  have e := len_mul z n
  rw [if_neg (by simp; omega)] at e
  exact ⟨.str (Txt.mul z n), H, I.tok _, ⟨_, rfl⟩, q _ e⟩
end
theorem cutV_mem {xs : List V} {lo hi : Option Int} {v : V} (h : v ∈ cutV xs lo hi) : v ∈ xs := by
  unfold cutV at h
  exact List.mem_of_mem_drop (List.mem_of_mem_take h)
theorem cutV_len (xs : List V) (lo hi : Option Int) : (cutV xs lo hi).length ≤ xs.length := by
  unfold cutV
  rw [List.length_take, List.length_drop]
  omega
/-! ### things of the laws -/
def Flat (v : V) : Prop := v = .non ∨ (∃ x, v = .bl x) ∨ (∃ i, v = .int i) ∨ ∃ z : Str, v = .str z ∧ z.length ≤ 100000
def It (b : Addr) (H : Hp) (v : V) : Prop := Flat v ∨ (∃ a xs, v = .ref a ∧ a ≠ b ∧ H a = some (.lst xs)) ∨ ∃ a xs, v = .ref a ∧ H a = some (.tup xs)
def Tg (b : Addr) (H : Hp) (v : V) : Prop := Flat v ∨ (∃ a xs, v = .ref a ∧ a ≠ b ∧ H a = some (.lst xs)) ∨ ∃ a xs, v = .ref a ∧ H a = some (.tup xs) ∧ xs.length ≤ 1000 ∧ ∀ u ∈ xs, It b H u
theorem BagAt.tup {H : Hp} {b a : Addr} {xs : List V} (h : BagAt H b) (e : H a = some (.tup xs)) : a ≠ b := fun z => by
  obtain ⟨g, s, e2, _⟩ := h
  rw [z, e2] at e
  cases e
theorem It.bx {b : Addr} {H H' : Hp} {v : V} (h : It b H v) (hb : BagAt H b) (x : Bx b H H') : It b H' v := by
  rcases h with h | ⟨a, xs, rfl, n, e⟩ | ⟨a, xs, rfl, e⟩
  · exact .inl h
  · exact .inr (.inl ⟨a, xs, rfl, n, x.2 _ _ n e⟩)
  · exact .inr (.inr ⟨a, xs, rfl, x.2 _ _ (hb.tup e) e⟩)
theorem Tg.bx {b : Addr} {H H' : Hp} {v : V} (h : Tg b H v) (hb : BagAt H b) (x : Bx b H H') : Tg b H' v := by
  rcases h with h | ⟨a, xs, rfl, n, e⟩ | ⟨a, xs, rfl, e, l, k⟩
  · exact .inl h
  · exact .inr (.inl ⟨a, xs, rfl, n, x.2 _ _ n e⟩)
  · exact .inr (.inr ⟨a, xs, rfl, x.2 _ _ (hb.tup e) e, l, fun u hu => (k u hu).bx hb x⟩)
theorem Tg.it {b : Addr} {H : Hp} {v : V} (h : Tg b H v) : It b H v := by
  rcases h with h | h | ⟨a, xs, rfl, e, l, k⟩
  · exact .inl h
  · exact .inr (.inl h)
  · exact .inr (.inr ⟨a, xs, rfl, e⟩)
theorem Tg.str {b : Addr} {H : Hp} {z : Str} (h : z.length ≤ 100000) : Tg b H (.str z) := .inl (.inr (.inr (.inr ⟨z, rfl, h⟩)))
theorem It.str {b : Addr} {H : Hp} {z : Str} (h : z.length ≤ 100000) : It b H (.str z) := .inl (.inr (.inr (.inr ⟨z, rfl, h⟩)))
theorem str_sOf (z : Str) : z = sOf z.cps.toList := of_list rfl

/-! ### rules whose new objects stand in an opaque heap -/
section
variable {X : Cx} {es : List Expr} {t : TA} {pos : Pos}
theorem pe_weaken {e : Expr} {te tf : TE} (h : PE X e te) (k : ∀ σ H Q, tf σ H Q → te σ H Q) : PE X e tf := ⟨fun pins s σ H Q I q => h.run pins s σ H Q I (k σ H Q q)⟩
def tLstW (t : TA) : TE := fun σ H Q => t σ H fun xs H1 => xs.length ≤ 100000 ∧ ∀ p H2, H1 p = none → Same H1 H2 → H2 p = some (.lst xs) → Q (.ref p) H2
def tTupW (t : TA) : TE := fun σ H Q => t σ H fun xs H1 => xs.length ≤ 100000 ∧ ∀ p H2, H1 p = none → Same H1 H2 → H2 p = some (.tup xs) → Q (.ref p) H2
end
def rNewW (H : Hp) (o : HO) (Q : VK) : Prop := ∀ p H2, H p = none → Same H H2 → H2 p = some o → Q (.ref p) H2
theorem rNewW.go {H : Hp} {o : HO} {Q : VK} (q : rNewW H o Q) : ∀ p, H p = none → Q (.ref p) (upd H p o) := fun p hp => q p _ hp (same_new hp) upd_same
section
variable {X : Cx}
theorem op_catLW : OpR X (binaryOp .Add) (fun x y H Q => ∃ a b xs ys, x = .ref a ∧ y = .ref b ∧ H a = some (.lst xs) ∧ H b = some (.lst ys) ∧ xs.length + ys.length ≤ 100000 ∧ rNewW H (.lst (xs ++ ys)) Q) := by
  intro pins s σ H x y v u Q I rx ry h
  obtain ⟨a, b, xs, ys, rfl, rfl, ha, hb, hz, q⟩ := h
  exact op_cat pins s σ H _ _ v u Q I rx ry ⟨a, b, xs, ys, rfl, rfl, ha, hb, sz hz, q.go⟩
theorem op_repTW : OpR X (binaryOp .Mult) (fun x y H Q => ∃ l k xs, x = .ref l ∧ y = .int k ∧ H l = some (.tup xs) ∧ xs ≠ [] ∧ 2 ≤ k ∧ k ≤ 1000 ∧ xs.length ≤ 1000 ∧ rNewW H (.tup (List.replicate k.toNat xs).flatten) Q) := by
  intro pins s σ H x y v u Q I rx ry h
  obtain ⟨l, k, xs, rfl, rfl, hl, h1, h2, h3, h4, q⟩ := h
  exact op_repT pins s σ H _ _ v u Q I rx ry ⟨l, k, xs, rfl, rfl, .inl (.inl hl), h1, h2, h3, h4, q.go⟩
theorem call_list_ofW : CallR X (.type "list") (fun xs H Q => ∃ p ys, xs = [.ref p] ∧ (H p = some (.lst ys) ∨ H p = some (.tup ys)) ∧ rNewW H (.lst ys) Q) := by
  intro pins s σ H xs us Q I r h
  obtain ⟨p, ys, rfl, hp, q⟩ := h
  exact call_list_of pins s σ H _ us Q I r ⟨p, ys, rfl, hp.elim (fun h => .inl (SqL.of h)) (fun h => .inr (.inl (.inl h))), q.go⟩
theorem call_list_strW (hc : X.calm = true) : CallR X (.type "list") (fun xs H Q => ∃ z : Str, xs = [.str z] ∧ z.length ≤ 100000 ∧ rNewW H (.lst (cells z.cps.toList)) Q) := by
  intro pins s σ H xs us Q I r h
  obtain ⟨z, rfl, hz, q⟩ := h
  refine call_list_str hc pins s σ H _ us Q I r ⟨z.cps.toList, by rw [← str_sOf], ?_, q.go⟩
  rw [Array.length_toList]
  exact hz
end
section
variable {X : Cx} {es : List Expr} {t : TA} {pos : Pos}
theorem pe_tupW {x1} (h : PA X es t) : PE X (.Tuple es x1 pos) (tTupW t) := by
  refine ⟨fun pins s σ H Q I hq => ?_⟩
  refine wpAny_Tuple_spliced (thn (h.run pos pins s σ H _ I hq) fun us s1 ⟨xs, H1, I1, r, z, q⟩ => ⟨by rw [← r.length]; exact sz z, ?_⟩)
  have hf : H1 s1.heap.objs.size = none := I1.hok.fresh (Nat.le_refl _)
  refine ⟨.ref s1.heap.objs.size, upd H1 s1.heap.objs.size (.tup xs), I1.laid (t' := s1.toks) (fun b u e => Heap.get?_push_of_some _ e) (Nat.le_refl _) ?_, rfl, q _ _ hf (same_new hf) upd_same⟩
  exact ⟨sz z, us, r, ⟨_, Heap.get?_push_size _ rfl, rfl, _, rfl⟩⟩
theorem pe_lstW (h : PA X es t) : PE X (.List es pos) (tLstW t) := by
  refine ⟨fun pins s σ H Q I hq => ?_⟩
  refine wpAny_List_spliced (thn (h.run pos pins s σ H _ I hq) fun us s1 ⟨xs, H1, I1, r, z, q⟩ => ⟨by rw [← r.length]; exact sz z, ?_⟩)
  have hf : H1 s1.heap.objs.size = none := I1.hok.fresh (Nat.le_refl _)
  refine ⟨.ref s1.heap.objs.size, upd H1 s1.heap.objs.size (.lst xs), I1.laid (t' := s1.toks) (fun b u e => Heap.get?_push_of_some _ e) (Nat.le_refl _) ?_, rfl, q _ _ hf (same_new hf) upd_same⟩
  exact ⟨sz z, us, 0, r, Heap.get?_push_size _ rfl⟩
end
end Fp

set_option Elab.async false
set_option linter.all false
set_option maxRecDepth 100000
set_option maxHeartbeats 4000000
/-! The first place of a sign in a text; the runs of a row. -/
namespace Fp
open PySem L2 PyProof.Rows
def oth (c : Nat) : Nat := if c = 46 then 35 else 46
theorem oth_46 : oth 46 = 35 := rfl
theorem oth_35 : oth 35 = 46 := rfl
theorem oth_cell (c : Nat) : Cell (oth c) := by
  unfold oth
  split
  · exact .inr rfl
  · exact .inl rfl
theorem oth_ne {c : Nat} (h : Cell c) : oth c ≠ c := by
  rcases h with rfl | rfl <;> decide
theorem oth_oth {c : Nat} (h : Cell c) : oth (oth c) = c := by
  rcases h with rfl | rfl <;> rfl
theorem cell_ne {c x : Nat} (hc : Cell c) (hx : Cell x) (n : x ≠ oth c) : x = c := by
  rcases hc with rfl | rfl <;> rcases hx with rfl | rfl <;> first | rfl | exact absurd rfl n
/-- the first place of c in l, from s on; l's end where there is none -/
def fp (l : List Nat) (c s : Nat) : Nat := if s ≤ l.length then s + ((l.drop s).takeWhile (fun x => decide (x ≠ c))).length else l.length
theorem tw_spec (c : Nat) : ∀ l : List Nat, (∀ v, v < (l.takeWhile (fun x => decide (x ≠ c))).length → l[v]? ≠ some c) ∧ (l.takeWhile (fun x => decide (x ≠ c))).length ≤ l.length ∧ ((l.takeWhile (fun x => decide (x ≠ c))).length < l.length → l[(l.takeWhile (fun x => decide (x ≠ c))).length]? = some c)
  | [] => ⟨fun v h => by simp at h, by simp, fun h => by simp at h⟩
  | x :: r => by
    obtain ⟨h1, h2, h3⟩ := tw_spec c r
    by_cases e : x = c
    · subst e
      have z : (x :: r).takeWhile (fun y => decide (y ≠ x)) = [] := by
        rw [List.takeWhile_cons]
        simp
      rw [z]
      exact ⟨fun v h => by simp at h, by simp, fun _ => rfl⟩
    · have z : (x :: r).takeWhile (fun y => decide (y ≠ c)) = x :: r.takeWhile (fun y => decide (y ≠ c)) := by
        rw [List.takeWhile_cons]
        simp [e]
      rw [z]
      refine ⟨fun v h => ?_, ?_, fun h => ?_⟩
      · cases v with
        | zero => exact fun q => e (Option.some.inj q)
        | succ v =>
          have h' : v < (r.takeWhile (fun y => decide (y ≠ c))).length := by
            rw [List.length_cons] at h
            omega
          exact h1 v h'
      · rw [List.length_cons, List.length_cons]
        omega
      · rw [List.length_cons, List.length_cons] at h
        rw [List.length_cons, List.getElem?_cons_succ]
        exact h3 (by omega)
theorem fp_spec {l : List Nat} {c s : Nat} (h : s ≤ l.length) : s ≤ fp l c s ∧ fp l c s ≤ l.length ∧ (∀ v, s ≤ v → v < fp l c s → l[v]? ≠ some c) ∧ (fp l c s < l.length → l[fp l c s]? = some c) := by
  obtain ⟨h1, h2, h3⟩ := tw_spec c (l.drop s)
  unfold fp
  rw [if_pos h]
  rw [List.length_drop] at h2 h3
  refine ⟨by omega, by omega, fun v a b => ?_, fun b => ?_⟩
  · have := h1 (v - s) (by omega)
    rw [List.getElem?_drop, show s + (v - s) = v by omega] at this
    exact this
  · have := h3 (by omega)
    rw [List.getElem?_drop] at this
    exact this
theorem fp_uniq {l : List Nat} {c s k : Nat} (h : s ≤ l.length) (h1 : s ≤ k) (h2 : k ≤ l.length) (h3 : ∀ v, s ≤ v → v < k → l[v]? ≠ some c) (h4 : k < l.length → l[k]? = some c) : fp l c s = k := by
  obtain ⟨a1, a2, a3, a4⟩ := fp_spec (c := c) h
  by_cases e1 : fp l c s < k
  · exact absurd (a4 (by omega)) (h3 _ a1 e1)
  · by_cases e2 : k < fp l c s
    · exact absurd (h4 (by omega)) (a3 _ h1 e2)
    · omega
theorem fp_le (l : List Nat) (c s : Nat) : fp l c s ≤ l.length := by
  by_cases h : s ≤ l.length
  · exact (fp_spec h).2.1
  · unfold fp
    rw [if_neg h]
    exact Nat.le_refl _
theorem sOf_getD (l : List Nat) (v : Nat) : (sOf l).cps.getD v 0 = (l[v]?).getD 0 := by
  show (l.toArray).getD v 0 = _
  simp [Array.getD]
  by_cases h : v < l.length
  · rw [dif_pos h, List.getElem?_eq_getElem h]
    rfl
  · rw [dif_neg h, List.getElem?_eq_none (by omega)]
    rfl
/-- find, and what first_place makes of it -/
theorem find3_fp (l : List Nat) (c s : Nat) : (Txt.find3 (sOf l) (sOf [c]) (s : Int) < 0 ∧ fp l c s = l.length) ∨ (Txt.find3 (sOf l) (sOf [c]) (s : Int) = (fp l c s : Int)) := by
  have e : PySem.fromIndex (sOf l).length (s : Int) = s := by
    unfold PySem.fromIndex
    rw [if_neg (by omega)]
    omega
  rcases StrLaws.find3_spec (sOf l) c (s : Int) with ⟨h1, h2⟩ | ⟨k, h1, h2, h3, h4, h5⟩
  · left
    refine ⟨by rw [show sOf [c] = ⟨#[c]⟩ from rfl, h1]; decide, ?_⟩
    by_cases h : s ≤ l.length
    · refine fp_uniq h h (Nat.le_refl _) (fun v a b => ?_) (fun z => absurd z (Nat.lt_irrefl _))
      have := h2 v (by rw [e]; exact a) (by rw [sOf_len]; exact b)
      rw [sOf_getD, List.getElem?_eq_getElem b] at this
      rw [List.getElem?_eq_getElem b]
      exact fun q => this (Option.some.inj q)
    · unfold fp
      rw [if_neg h]
  · right
    rw [e] at h2 h5
    rw [sOf_len] at h3
    rw [show sOf [c] = ⟨#[c]⟩ from rfl, h1]
    congr 1
    symm
    refine fp_uniq (by omega) h2 (by omega) (fun v a b => ?_) (fun _ => ?_)
    · have := h5 v a b
      have b' : v < l.length := by omega
      rw [sOf_getD, List.getElem?_eq_getElem b'] at this
      rw [List.getElem?_eq_getElem b']
      exact fun q => this (Option.some.inj q)
    · rw [sOf_getD, List.getElem?_eq_getElem h3] at h4
      rw [List.getElem?_eq_getElem h3]
      exact congrArg some h4
/-- the runs: what is left, the colour, how many of it stand ahead -/
def runsFrom : List Nat → Nat → Nat → List Nat
  | [], _, k => [k]
  | x :: r, c, k => if x = oth c then k :: runsFrom r (oth c) 1 else runsFrom r c (k + 1)
def runsL (l : List Nat) : List Nat := runsFrom l 46 0
theorem runsFrom_ne (l : List Nat) (c k : Nat) : runsFrom l c k ≠ [] := by
  induction l generalizing c k with
  | nil => exact fun h => by cases h
  | cons x r ih =>
    unfold runsFrom
    split
    · exact fun h => by cases h
    · exact ih c (k + 1)
theorem runsFrom_step (c : Nat) (hc : Cell c) : ∀ (l : List Nat) (k : Nat), runsFrom l c k = (k + (l.takeWhile (fun x => decide (x ≠ oth c))).length) :: (if l.drop (l.takeWhile (fun x => decide (x ≠ oth c))).length = [] then [] else runsFrom (l.drop (l.takeWhile (fun x => decide (x ≠ oth c))).length) (oth c) 0)
  | [], k => by simp [runsFrom]
  | x :: r, k => by
    by_cases e : x = oth c
    · have z : (x :: r).takeWhile (fun y => decide (y ≠ oth c)) = [] := by
        rw [List.takeWhile_cons]
        simp [e]
      rw [z]
      have n1 : oth c ≠ oth (oth c) := by
        rcases hc with rfl | rfl <;> decide
      rw [List.length_nil, List.drop_zero, if_neg (by simp)]
      conv => lhs; unfold runsFrom
      conv => rhs; rhs; unfold runsFrom
      rw [if_pos e, if_neg (by rw [e]; exact n1)]
      rfl
    · have z : (x :: r).takeWhile (fun y => decide (y ≠ oth c)) = x :: r.takeWhile (fun y => decide (y ≠ oth c)) := by
        rw [List.takeWhile_cons]
        simp [e]
      rw [z, List.length_cons, List.drop_succ_cons]
      conv => lhs; unfold runsFrom
      rw [if_neg e, runsFrom_step c hc r (k + 1)]
      congr 1
      omega
/-- a step of runs_of at a place -/
theorem runs_at {l : List Nat} {c p : Nat} (hc : Cell c) (hp : p ≤ l.length) : runsFrom (l.drop p) c 0 = (fp l (oth c) p - p) :: (if fp l (oth c) p = l.length then [] else runsFrom (l.drop (fp l (oth c) p)) (oth c) 0) := by
  rw [runsFrom_step c hc]
  have e : fp l (oth c) p = p + ((l.drop p).takeWhile (fun x => decide (x ≠ oth c))).length := by
    unfold fp
    rw [if_pos hp]
  have le := fp_le l (oth c) p
  rw [List.drop_drop, ← e]
  congr 1
  · omega
  · have q : l.drop (fp l (oth c) p) = [] ↔ fp l (oth c) p = l.length := by
      rw [List.drop_eq_nil_iff]
      omega
    by_cases h : fp l (oth c) p = l.length
    · rw [if_pos (q.mpr h), if_pos h]
    · rw [if_neg (fun z => h (q.mp z)), if_neg h]
/-- runs put together -/
def unr : List Nat → Nat → List Nat
  | [], _ => []
  | k :: r, c => List.replicate k c ++ unr r (oth c)
theorem unr_runs {l : List Nat} (h : Row l) {c : Nat} (hc : Cell c) (k : Nat) : unr (runsFrom l c k) c = List.replicate k c ++ l := by
  induction l generalizing c k with
  | nil =>
    show List.replicate k c ++ [] = _
    rfl
  | cons x r ih =>
    have hr : Row r := fun y hy => h y (List.mem_cons_of_mem _ hy)
    unfold runsFrom
    split
    · rename_i e
      show List.replicate k c ++ unr (runsFrom r (oth c) 1) (oth c) = _
      rw [ih hr (oth_cell c), e]
      rfl
    · rename_i e
      rw [ih hr hc, cell_ne hc (h x (List.mem_cons_self ..)) e, List.replicate_succ', List.append_assoc]
      rfl
theorem runs_pos {l : List Nat} {c k : Nat} (hc : Cell c) : ∀ x ∈ (runsFrom l c k).drop 1, 0 < x := by
  have main : ∀ (l : List Nat) (c k : Nat), 0 < k → ∀ x ∈ runsFrom l c k, 0 < x := by
    intro l
    induction l with
    | nil =>
      intro c k hk x hx
      rw [List.mem_singleton.mp hx]
      exact hk
    | cons y r ih =>
      intro c k hk x hx
      unfold runsFrom at hx
      split at hx
      · rcases List.mem_cons.mp hx with e | e
        · rw [e]
          exact hk
        · exact ih _ _ (by decide) x e
      · exact ih _ _ (by omega) x hx
  induction l generalizing c k with
  | nil =>
    intro x hx
    cases hx
  | cons y r ih =>
    intro x hx
    unfold runsFrom at hx
    split at hx
    · exact main _ _ _ (by decide) x hx
    · exact ih hc x hx
theorem unr_len : ∀ (rs : List Nat) (c : Nat), (unr rs c).length = rs.sum
  | [], _ => rfl
  | k :: r, c => by
    show (List.replicate k c ++ unr r (oth c)).length = _
    rw [List.length_append, List.length_replicate, unr_len r, List.sum_cons]
theorem runs_sum {l : List Nat} (h : Row l) : (runsL l).sum = l.length := by
  rw [← unr_len (runsL l) 46]
  unfold runsL
  rw [unr_runs h (.inl rfl)]
  rfl
theorem le_sum {xs : List Nat} {x : Nat} (h : x ∈ xs) : x ≤ xs.sum := by
  induction xs with
  | nil => cases h
  | cons y r ih =>
    rw [List.sum_cons]
    rcases List.mem_cons.mp h with e | e
    · omega
    · have := ih e
      omega
theorem pos_sum : ∀ xs : List Nat, (∀ x ∈ xs, 0 < x) → xs.length ≤ xs.sum
  | [], _ => Nat.le_refl _
  | y :: r, h => by
    have h1 := pos_sum r fun x hx => h x (List.mem_cons_of_mem _ hx)
    have h2 := h y (List.mem_cons_self ..)
    rw [List.sum_cons, List.length_cons]
    omega
theorem runs_len {l : List Nat} (h : Row l) : (runsL l).length ≤ l.length + 1 := by
  have h1 := runs_pos (l := l) (k := 0) (c := 46) (.inl rfl)
  have h2 := pos_sum _ h1
  have h3 := runs_sum h
  unfold runsL at h3 ⊢
  cases e : runsFrom l 46 0 with
  | nil => simp
  | cons y r =>
    rw [e] at h2 h3
    rw [List.sum_cons] at h3
    simp only [List.drop_succ_cons, List.drop_zero] at h2
    rw [List.length_cons]
    omega
/-- the colour of the i-th run -/
def colr (c : Nat) : Nat → Nat
  | 0 => c
  | i + 1 => oth (colr c i)
theorem colr_succ (c : Nat) : ∀ i, colr (oth c) i = oth (colr c i)
  | 0 => rfl
  | i + 1 => by
    show oth (colr (oth c) i) = oth (oth (colr c i))
    rw [colr_succ c i]
theorem colr_mod : ∀ i : Nat, colr 46 i = if i % 2 = 0 then 46 else 35
  | 0 => rfl
  | i + 1 => by
    show oth (colr 46 i) = _
    rw [colr_mod i]
    by_cases h : i % 2 = 0
    · rw [if_pos h, if_neg (by omega)]
      rfl
    · rw [if_neg h, if_pos (by omega)]
      rfl
theorem unr_more : ∀ (rs : List Nat) (c i x : Nat), rs[i]? = some x → unr (rs.take (i + 1)) c = unr (rs.take i) c ++ List.replicate x (colr c i)
  | [], _, _, _, h => by cases h
  | y :: r, c, 0, x, h => by
    have : y = x := Option.some.inj h
    subst this
    show List.replicate y c ++ unr (r.take 0) (oth c) = [] ++ List.replicate y c
    rw [List.take_zero]
    show List.replicate y c ++ [] = _
    rw [List.append_nil, List.nil_append]
  | y :: r, c, i + 1, x, h => by
    show List.replicate y c ++ unr (r.take (i + 1)) (oth c) = (List.replicate y c ++ unr (r.take i) (oth c)) ++ List.replicate x (oth (colr c i))
    rw [unr_more r (oth c) i x h, colr_succ, List.append_assoc]
end Fp

set_option Elab.async false
set_option linter.all false
set_option maxRecDepth 100000
set_option maxHeartbeats 4000000
/-! Texts of bits: slices, numbers written by twos, spoils. -/
namespace Fp
open PySem L2 PyProof.Rows
theorem cutS_upto (l : List Nat) (b : Nat) : cutS (sOf l) none (some (b : Int)) = sOf (l.take b) := by
  unfold cutS
  rw [HT.sIx_nat, sOf_len, sOf_list, HT.sIx_none]
  show sOf ((l.drop 0).take (min b l.length - 0)) = _
  rw [List.drop_zero, Nat.sub_zero]
  congr 1
  by_cases h : b ≤ l.length
  · rw [Nat.min_eq_left h]
  · rw [Nat.min_eq_right (by omega), List.take_length, List.take_of_length_le (by omega)]
theorem cutS_from (l : List Nat) (a : Nat) : cutS (sOf l) (some (a : Int)) none = sOf (l.drop a) := by
  unfold cutS
  rw [HT.sIx_nat, sOf_len, sOf_list, HT.sIx_none]
  congr 1
  by_cases h : a ≤ l.length
  · rw [Nat.min_eq_left h]
    have q : (l.drop a).length ≤ l.length - a := by
      rw [List.length_drop]
      exact Nat.le_refl _
    exact congrArg _ (List.take_of_length_le q)
  · rw [Nat.min_eq_right (by omega), Nat.sub_self, List.take_zero, List.drop_eq_nil_of_le (by omega)]
/-! ### known tests -/
theorem iteD1 {p A B : Prop} [Decidable p] (h : p) (a : A) : if decide p = true then A else B := by
  rw [decide_eq_true h]
  exact iteT a
theorem iteD0 {p A B : Prop} [Decidable p] (h : ¬ p) (b : B) : if decide p = true then A else B := by
  rw [decide_eq_false h]
  exact iteF b
theorem iteN0 {p A B : Prop} [Decidable p] (h : p) (b : B) : if (!decide p) = true then A else B := by
  rw [decide_eq_true h]
  exact iteF b
theorem iteN1 {p A B : Prop} [Decidable p] (h : ¬ p) (a : A) : if (!decide p) = true then A else B := by
  rw [decide_eq_false h]
  exact iteT a
theorem vint {i j : Int} : (V.int i = V.int j) ↔ i = j := ⟨fun h => V.int.inj h, fun h => by rw [h]⟩
theorem vstr {l m : List Nat} : (V.str (sOf l) = V.str (sOf m)) ↔ l = m := ⟨fun h => sOf_inj (V.str.inj h), fun h => by rw [h]⟩
theorem vstr1 {c d : Nat} : (V.str (sOf [c]) = V.str (sOf [d])) ↔ c = d := vstr.trans ⟨fun h => by simpa using h, fun h => by rw [h]⟩
def bitN (i : Int) : Nat := if i = 0 then 48 else 49
theorem bitN_bit (i : Int) : bitN i = 48 ∨ bitN i = 49 := by
  unfold bitN
  split
  · exact .inl rfl
  · exact .inr rfl
theorem bit_at {i : Int} (h0 : 0 ≤ i) (h1 : i < 2) : atI (Str.ofString "01").cps.toList i = some (bitN i) := by
  have : i = 0 ∨ i = 1 := by omega
  rcases this with rfl | rfl <;> rfl
theorem two_len' : (Str.ofString "01").length ≤ sizeLine := by decide
theorem sOf_at {l : List Nat} {i c : Nat} (h : l[i]? = some c) : atI (sOf l).cps.toList (i : Int) = some c := by
  rw [sOf_list]
  exact atI_nat h
--PURE
/-! ### bits -/
def Bts (l : List Nat) : Prop := ∀ c ∈ l, c = 48 ∨ c = 49
theorem Bts.app {l m : List Nat} (h : Bts l) (k : Bts m) : Bts (l ++ m) := fun c hc => by
  rcases List.mem_append.mp hc with e | e
  · exact h c e
  · exact k c e
theorem Bts.nil : Bts [] := fun _ h => nomatch h
theorem Bts.take {l : List Nat} (h : Bts l) (n : Nat) : Bts (l.take n) := fun c hc => h c (List.mem_of_mem_take hc)
theorem Bts.drop {l : List Nat} (h : Bts l) (n : Nat) : Bts (l.drop n) := fun c hc => h c (List.mem_of_mem_drop hc)
theorem Bts.one {c : Nat} (h : c = 48 ∨ c = 49) : Bts [c] := fun x hx => by
  rw [List.mem_singleton.mp hx]
  exact h
theorem Bts.rep {n c : Nat} (hc : c = 48 ∨ c = 49) : Bts (List.replicate n c) := fun x hx => by
  rw [(List.mem_replicate.mp hx).2]
  exact hc
theorem Bts.at {l : List Nat} (h : Bts l) {i c : Nat} (e : l[i]? = some c) : c = 48 ∨ c = 49 := h c (List.mem_of_getElem? e)
/-- a number by twos, m signs -/
def wrB (n m : Nat) : List Nat := (List.range m).map fun j => 48 + n / 2 ^ (m - 1 - j) % 2
theorem wrB_len (n m : Nat) : (wrB n m).length = m := by
  unfold wrB
  rw [List.length_map, List.length_range]
theorem wrB_bts (n m : Nat) : Bts (wrB n m) := fun c hc => by
  unfold wrB at hc
  obtain ⟨j, _, rfl⟩ := List.mem_map.mp hc
  omega
/-! ### spoils -/
inductive Spl where
  | turn (n : Nat)
  | lose (n : Nat)
  | put (n b : Nat)
def flipB (c : Nat) : Nat := if c = 49 then 48 else 49
def once (l : List Nat) : Spl → List Nat
  | .put n b => if n ≤ l.length then l.take n ++ b :: l.drop n else l
  | .turn n => if n < l.length then l.take n ++ flipB ((l[n]?).getD 0) :: l.drop (n + 1) else l
  | .lose n => if n < l.length then l.take n ++ l.drop (n + 1) else l
def spoilL (l : List Nat) (sps : List Spl) : List Nat := sps.foldl once l
def plc : Spl → Nat
  | .put n _ => n
  | .turn n => n
  | .lose n => n
/-- what the sign x at the place i becomes -/
def stepA (sp : Spl) (i : Nat) : List Nat := match sp with
  | .put n b => if i = n then [b] else []
  | _ => []
def stepB (sp : Spl) (i x : Nat) : List Nat := match sp with
  | .put _ _ => [x]
  | .turn n => if i = n then [flipB x] else [x]
  | .lose n => if i = n then [] else [x]
/-- place by place -/
def walkS (sp : Spl) : List Nat → Nat → List Nat
  | [], i => stepA sp i
  | x :: r, i => stepA sp i ++ stepB sp i x ++ walkS sp r (i + 1)
theorem walk_past (sp : Spl) : ∀ (l : List Nat) (i : Nat), plc sp < i → walkS sp l i = l
  | [], i, h => by
    cases sp with
    | put n b => show (if i = n then [b] else []) = []; rw [if_neg (by show ¬ i = n; have : n < i := h; omega)]
    | turn n => rfl
    | lose n => rfl
  | x :: r, i, h => by
    have ih := walk_past sp r (i + 1) (by omega)
    unfold walkS
    rw [ih]
    cases sp with
    | put n b =>
      have : n < i := h
      show (if i = n then [b] else []) ++ [x] ++ r = x :: r
      rw [if_neg (by omega)]
      rfl
    | turn n =>
      have : n < i := h
      show [] ++ (if i = n then [flipB x] else [x]) ++ r = x :: r
      rw [if_neg (by omega)]
      rfl
    | lose n =>
      have : n < i := h
      show [] ++ (if i = n then [] else [x]) ++ r = x :: r
      rw [if_neg (by omega)]
      rfl
def shift (sp : Spl) (i : Nat) : Spl := match sp with
  | .put n b => .put (n - i) b
  | .turn n => .turn (n - i)
  | .lose n => .lose (n - i)
theorem walk_once (sp : Spl) : ∀ (l : List Nat) (i : Nat), i ≤ plc sp → walkS sp l i = once l (shift sp i)
  | [], i, h => by
    cases sp with
    | put n b =>
      have : i ≤ n := h
      show (if i = n then [b] else []) = if n - i ≤ 0 then [].take (n - i) ++ b :: [].drop (n - i) else []
      by_cases e : i = n
      · rw [if_pos e, if_pos (by omega)]
        simp
      · rw [if_neg e, if_neg (by omega)]
    | turn n => rfl
    | lose n => rfl
  | x :: r, i, h => by
    unfold walkS
    by_cases e : i = plc sp
    · rw [walk_past sp r (i + 1) (by omega)]
      cases sp with
      | put n b =>
        have e : i = n := e
        subst e
        show (if i = i then [b] else []) ++ [x] ++ r = if i - i ≤ (x :: r).length then (x :: r).take (i - i) ++ b :: (x :: r).drop (i - i) else x :: r
        rw [if_pos rfl, Nat.sub_self, if_pos (Nat.zero_le _)]
        rfl
      | turn n =>
        have e : i = n := e
        subst e
        show [] ++ (if i = i then [flipB x] else [x]) ++ r = if i - i < (x :: r).length then (x :: r).take (i - i) ++ flipB (((x :: r)[i - i]?).getD 0) :: (x :: r).drop (i - i + 1) else x :: r
        rw [if_pos rfl, Nat.sub_self, if_pos (by rw [List.length_cons]; exact Nat.succ_pos _)]
        rfl
      | lose n =>
        have e : i = n := e
        subst e
        show [] ++ (if i = i then [] else [x]) ++ r = if i - i < (x :: r).length then (x :: r).take (i - i) ++ (x :: r).drop (i - i + 1) else x :: r
        rw [if_pos rfl, Nat.sub_self, if_pos (by rw [List.length_cons]; exact Nat.succ_pos _)]
        rfl
    · have lt : i + 1 ≤ plc sp := by omega
      rw [walk_once sp r (i + 1) lt]
      cases sp with
      | put n b =>
        have lt : i + 1 ≤ n := lt
        obtain ⟨k, rfl⟩ : ∃ k, n = i + 1 + k := ⟨n - (i + 1), by omega⟩
        show (if i = i + 1 + k then [b] else []) ++ [x] ++ (if i + 1 + k - (i + 1) ≤ r.length then r.take (i + 1 + k - (i + 1)) ++ b :: r.drop (i + 1 + k - (i + 1)) else r) = if i + 1 + k - i ≤ (x :: r).length then (x :: r).take (i + 1 + k - i) ++ b :: (x :: r).drop (i + 1 + k - i) else x :: r
        rw [if_neg (by omega), show i + 1 + k - (i + 1) = k by omega, show i + 1 + k - i = k + 1 by omega, List.length_cons]
        by_cases q : k ≤ r.length
        · rw [if_pos q, if_pos (by omega)]
          rfl
        · rw [if_neg q, if_neg (by omega)]
          rfl
      | turn n =>
        have lt : i + 1 ≤ n := lt
        obtain ⟨k, rfl⟩ : ∃ k, n = i + 1 + k := ⟨n - (i + 1), by omega⟩
        show [] ++ (if i = i + 1 + k then [flipB x] else [x]) ++ (if i + 1 + k - (i + 1) < r.length then r.take (i + 1 + k - (i + 1)) ++ flipB ((r[i + 1 + k - (i + 1)]?).getD 0) :: r.drop (i + 1 + k - (i + 1) + 1) else r) = if i + 1 + k - i < (x :: r).length then (x :: r).take (i + 1 + k - i) ++ flipB (((x :: r)[i + 1 + k - i]?).getD 0) :: (x :: r).drop (i + 1 + k - i + 1) else x :: r
        rw [if_neg (by omega), show i + 1 + k - (i + 1) = k by omega, show i + 1 + k - i = k + 1 by omega, List.length_cons]
        by_cases q : k < r.length
        · rw [if_pos q, if_pos (by omega)]
          rfl
        · rw [if_neg q, if_neg (by omega)]
          rfl
      | lose n =>
        have lt : i + 1 ≤ n := lt
        obtain ⟨k, rfl⟩ : ∃ k, n = i + 1 + k := ⟨n - (i + 1), by omega⟩
        show [] ++ (if i = i + 1 + k then [] else [x]) ++ (if i + 1 + k - (i + 1) < r.length then r.take (i + 1 + k - (i + 1)) ++ r.drop (i + 1 + k - (i + 1) + 1) else r) = if i + 1 + k - i < (x :: r).length then (x :: r).take (i + 1 + k - i) ++ (x :: r).drop (i + 1 + k - i + 1) else x :: r
        rw [if_neg (by omega), show i + 1 + k - (i + 1) = k by omega, show i + 1 + k - i = k + 1 by omega, List.length_cons]
        by_cases q : k < r.length
        · rw [if_pos q, if_pos (by omega)]
          rfl
        · rw [if_neg q, if_neg (by omega)]
          rfl
theorem walk_is (sp : Spl) (l : List Nat) : walkS sp l 0 = once l sp := by
  rw [walk_once sp l 0 (Nat.zero_le _)]
  cases sp <;> rfl
theorem once_len (l : List Nat) (sp : Spl) : (once l sp).length ≤ l.length + 1 := by
  cases sp with
  | put n b =>
    show (if n ≤ l.length then l.take n ++ b :: l.drop n else l).length ≤ _
    split
    · rw [List.length_append, List.length_cons, List.length_take, List.length_drop]
      omega
    · omega
  | turn n =>
    show (if n < l.length then l.take n ++ flipB ((l[n]?).getD 0) :: l.drop (n + 1) else l).length ≤ _
    split
    · rw [List.length_append, List.length_cons, List.length_take, List.length_drop]
      omega
    · omega
  | lose n =>
    show (if n < l.length then l.take n ++ l.drop (n + 1) else l).length ≤ _
    split
    · rw [List.length_append, List.length_take, List.length_drop]
      omega
    · omega
def BitS : Spl → Prop
  | .put _ b => b = 48 ∨ b = 49
  | _ => True
theorem flipB_bit (c : Nat) : flipB c = 48 ∨ flipB c = 49 := by
  unfold flipB
  split
  · exact .inl rfl
  · exact .inr rfl
theorem once_bts {l : List Nat} {sp : Spl} (h : Bts l) (hs : BitS sp) : Bts (once l sp) := by
  cases sp with
  | put n b =>
    show Bts (if n ≤ l.length then l.take n ++ b :: l.drop n else l)
    split
    · exact (h.take n).app (fun c hc => by
        rcases List.mem_cons.mp hc with e | e
        · rw [e]; exact hs
        · exact h.drop n c e)
    · exact h
  | turn n =>
    show Bts (if n < l.length then l.take n ++ flipB ((l[n]?).getD 0) :: l.drop (n + 1) else l)
    split
    · exact (h.take n).app (fun c hc => by
        rcases List.mem_cons.mp hc with e | e
        · rw [e]; exact flipB_bit _
        · exact h.drop _ c e)
    · exact h
  | lose n =>
    show Bts (if n < l.length then l.take n ++ l.drop (n + 1) else l)
    split
    · exact (h.take n).app (h.drop _)
    · exact h
end Fp

set_option Elab.async false
set_option linter.all false
set_option maxRecDepth 100000
set_option maxHeartbeats 4000000
/-! Steps by the row above. A place is told by s, one more than it. -/
namespace Fp
open PySem L2 PyProof.Rows
--PURE
def fchS (ab : List Nat) (s c : Nat) : Nat := if 1 ≤ s ∧ ab[s - 1]? ≠ some c then fp ab c s else s
def fch (ab : List Nat) (s c : Nat) : Nat := fp ab (oth c) (fchS ab s c)
inductive Stp where
  | passed
  | near (d : Int)
  | plain (a b : Nat)
def stA (l : List Nat) (s c : Nat) : Nat := fp l (oth c) s
def stC (ab : List Nat) (s c : Nat) : Nat := fp ab c (fch ab s c + 1)
def stE (l : List Nat) (s c : Nat) : Nat := fp l c (stA l s c + 1)
def NearP (ab l : List Nat) (s c : Nat) : Prop := (stA l s c : Int) - (fch ab s c : Int) ≤ 3 ∧ (fch ab s c : Int) - (stA l s c : Int) ≤ 3
instance (ab l : List Nat) (s c : Nat) : Decidable (NearP ab l s c) := by unfold NearP; exact inferInstance
def stepAt (ab l : List Nat) (s c : Nat) : Stp :=
  if stC ab s c < stA l s c then .passed else if NearP ab l s c then .near ((stA l s c : Int) - (fch ab s c : Int)) else .plain (stA l s c - (s - 1)) (stE l s c - stA l s c)
def ledT (ab : List Nat) (s c : Nat) : Stp → Int
  | .passed => (stC ab s c : Int)
  | .near d => (fch ab s c : Int) + d
  | .plain a b => ((s - 1 : Nat) : Int) + (a : Int) + (b : Int)
def colB (c : Nat) : Stp → Nat
  | .near _ => oth c
  | _ => c
/-- where a step leads that is told there -/
def ledN (ab l : List Nat) (s c : Nat) : Nat := if stC ab s c < stA l s c then stC ab s c else if NearP ab l s c then stA l s c else stE l s c
theorem fchS_le {ab : List Nat} {s c : Nat} (h : s ≤ ab.length) : s ≤ fchS ab s c ∧ fchS ab s c ≤ ab.length := by
  unfold fchS
  split
  · have := fp_spec (l := ab) (c := c) h
    omega
  · omega
theorem fch_le {ab : List Nat} {s c : Nat} (h : s ≤ ab.length) : s ≤ fch ab s c ∧ fch ab s c ≤ ab.length := by
  have h1 := fchS_le (c := c) h
  have h2 := fp_spec (l := ab) (c := oth c) h1.2
  unfold fch
  omega
theorem stA_le {l : List Nat} {s c : Nat} (h : s ≤ l.length) : s ≤ stA l s c ∧ stA l s c ≤ l.length := by
  have := fp_spec (l := l) (c := oth c) h
  unfold stA
  omega
theorem stE_le {l : List Nat} {s c : Nat} (h : s ≤ l.length) : stA l s c ≤ stE l s c ∧ stE l s c ≤ l.length := by
  have h1 := stA_le (c := c) h
  by_cases e : stA l s c + 1 ≤ l.length
  · have := fp_spec (l := l) (c := c) e
    unfold stE
    omega
  · unfold stE fp
    rw [if_neg e]
    omega
theorem stC_ge {ab : List Nat} {s c : Nat} (h : s ≤ ab.length) : s ≤ stC ab s c ∧ stC ab s c ≤ ab.length := by
  have h1 := fch_le (c := c) h
  by_cases e : fch ab s c + 1 ≤ ab.length
  · have := fp_spec (l := ab) (c := c) e
    unfold stC
    omega
  · unfold stC fp
    rw [if_neg e]
    omega
theorem ledN_le {ab l : List Nat} {s c : Nat} (h : s ≤ l.length) (e : ab.length = l.length) : s ≤ ledN ab l s c ∧ ledN ab l s c ≤ l.length := by
  have h1 := stA_le (c := c) h
  have h2 := stE_le (c := c) h
  have h3 := stC_ge (ab := ab) (c := c) (by omega : s ≤ ab.length)
  unfold ledN
  split
  · omega
  · split <;> omega
theorem ledT_step {ab l : List Nat} {s c : Nat} (h : s ≤ l.length) : ledT ab s c (stepAt ab l s c) = (ledN ab l s c : Int) := by
  have h1 := stA_le (c := c) h
  have h2 := stE_le (c := c) h
  unfold stepAt ledN
  split
  · rfl
  · split
    · show (fch ab s c : Int) + ((stA l s c : Int) - (fch ab s c : Int)) = _
      omega
    · show ((s - 1 : Nat) : Int) + ((stA l s c - (s - 1) : Nat) : Int) + ((stE l s c - stA l s c : Nat) : Int) = _
      omega
theorem colB_cell {c : Nat} (h : Cell c) (st : Stp) : Cell (colB c st) := by
  cases st with
  | near d => exact oth_cell c
  | passed => exact h
  | plain a b => exact h
/-- all steps, with their colours -/
def stepsF (ab l : List Nat) : Nat → Nat → Nat → List (Stp × Nat)
  | 0, _, _ => []
  | f + 1, s, c => if s ≤ l.length then (stepAt ab l s c, c) :: stepsF ab l f (ledN ab l s c + 1) (colB c (stepAt ab l s c)) else []
theorem stepsF_past (ab l : List Nat) : ∀ (f s c : Nat), l.length < s → stepsF ab l f s c = []
  | 0, _, _, _ => rfl
  | f + 1, s, c, h => by
    unfold stepsF
    rw [if_neg (by omega)]
theorem stepsF_fuel {ab l : List Nat} (e : ab.length = l.length) : ∀ (f s c : Nat), l.length + 1 ≤ f + s → stepsF ab l f s c = stepsF ab l (l.length + 1 - s) s c
  | 0, s, c, h => by
    rw [show l.length + 1 - s = 0 by omega]
  | f + 1, s, c, h => by
    by_cases hs : s ≤ l.length
    · obtain ⟨k, hk⟩ : ∃ k, l.length + 1 - s = k + 1 := ⟨l.length - s, by omega⟩
      rw [hk]
      show (if s ≤ l.length then _ else _) = (if s ≤ l.length then _ else _)
      rw [if_pos hs, if_pos hs]
      have lw := ledN_le (c := c) hs e
      rw [stepsF_fuel e f _ _ (by omega), stepsF_fuel e k _ _ (by omega)]
    · rw [stepsF_past ab l _ s c (by omega), stepsF_past ab l _ s c (by omega)]
def stepsL (ab l : List Nat) : List (Stp × Nat) := stepsF ab l (l.length + 1) 0 46
def stepsAt (ab l : List Nat) (s c : Nat) : List (Stp × Nat) := stepsF ab l (l.length + 1 - s) s c
theorem stepsAt_go {ab l : List Nat} {s c : Nat} (e : ab.length = l.length) (h : s ≤ l.length) : stepsAt ab l s c = (stepAt ab l s c, c) :: stepsAt ab l (ledN ab l s c + 1) (colB c (stepAt ab l s c)) := by
  unfold stepsAt
  obtain ⟨k, hk⟩ : ∃ k, l.length + 1 - s = k + 1 := ⟨l.length - s, by omega⟩
  rw [hk]
  show (if s ≤ l.length then _ else _) = _
  have lw := ledN_le (c := c) h e
  rw [if_pos h, stepsF_fuel e k _ _ (by omega)]
theorem stepsAt_end {ab l : List Nat} {s c : Nat} (h : l.length < s) : stepsAt ab l s c = [] := stepsF_past ab l _ s c h
theorem stepsF_len (ab l : List Nat) : ∀ (f s c : Nat), (stepsF ab l f s c).length ≤ f
  | 0, _, _ => Nat.le_refl _
  | f + 1, s, c => by
    unfold stepsF
    split
    · rw [List.length_cons]
      have := stepsF_len ab l f (ledN ab l s c + 1) (colB c (stepAt ab l s c))
      omega
    · exact Nat.zero_le _
/-- the law's way to the first change: where a cell hasn't the colour while the one ahead has it -/
theorem fch_law {ab : List Nat} {s c k : Nat} (hr : Row ab) (hc : Cell c) (h : s ≤ ab.length) (h0 : s = 0 → c = 46) (h1 : s ≤ k) (h2 : k ≤ ab.length)
    (h3 : ∀ v, s ≤ v → v < k → ¬ (ab[v]? = some (oth c) ∧ (46 :: ab)[v]? = some c)) (h4 : k < ab.length → ab[k]? = some (oth c) ∧ (46 :: ab)[k]? = some c) : fch ab s c = k := by
  have cell : ∀ v, v < ab.length → ab[v]? = some c ∨ ab[v]? = some (oth c) := fun v hv => by
    rw [List.getElem?_eq_getElem hv]
    by_cases e : ab[v] = oth c
    · exact .inr (by rw [e])
    · exact .inl (by rw [cell_ne hc (hr _ (List.getElem_mem hv)) e])
  have nco : some c ≠ some (oth c) := fun z => oth_ne hc (Option.some.inj z).symm
  -- from the beginning of the search on nothing but the colour stands ahead of the change
  have hS := fchS_le (c := c) h
  have pre : ∀ v, fchS ab s c ≤ v → v < ab.length → (∀ u, fchS ab s c ≤ u → u < v → ab[u]? ≠ some (oth c)) → (46 :: ab)[v]? = some c ∨ ab[v]? ≠ some (oth c) := by
    intro v hv hl hu
    by_cases e : v = fchS ab s c
    · unfold fchS at e
      split at e
      · rename_i q
        right
        have sp := fp_spec (l := ab) (c := c) h
        have := sp.2.2.2 (by omega)
        rw [e, this]
        exact nco
      · rename_i q
        left
        cases v with
        | zero =>
          have : c = 46 := h0 (by omega)
          rw [this]
          rfl
        | succ v =>
          show ab[v]? = some c
          have q' : ¬ (ab[s - 1]? ≠ some c) := fun z => q ⟨by omega, z⟩
          have : s - 1 = v := by omega
          rw [this] at q'
          exact Classical.not_not.mp q'
    · left
      cases v with
      | zero => omega
      | succ v =>
        show ab[v]? = some c
        rcases cell v (by omega) with z | z
        · exact z
        · exact absurd z (hu v (by omega) (by omega))
  have sp := fp_spec (l := ab) (c := oth c) hS.2
  unfold fch
  -- below the beginning of the search there is no change
  have low : ∀ v, s ≤ v → v < fchS ab s c → ¬ (ab[v]? = some (oth c) ∧ (46 :: ab)[v]? = some c) := by
    intro v hv hl
    unfold fchS at hl
    split at hl
    · rename_i q
      have spc := fp_spec (l := ab) (c := c) h
      rintro ⟨z1, z2⟩
      cases v with
      | zero => omega
      | succ v =>
        have z2 : ab[v]? = some c := z2
        by_cases e : v + 1 = s
        · have : s - 1 = v := by omega
          rw [this] at q
          exact q.2 z2
        · exact spc.2.2.1 v (by omega) (by omega) z2
    · omega
  by_cases e1 : fp ab (oth c) (fchS ab s c) < k
  · exfalso
    have a4 := sp.2.2.2 (by omega)
    refine h3 _ (by omega) e1 ⟨a4, ?_⟩
    rcases pre _ sp.1 (by omega) (fun u a b => sp.2.2.1 u a b) with z | z
    · exact z
    · exact absurd a4 z
  · by_cases e2 : k < fp ab (oth c) (fchS ab s c)
    · exfalso
      have ⟨b1, b2⟩ := h4 (by omega)
      by_cases e3 : k < fchS ab s c
      · exact low k h1 e3 ⟨b1, b2⟩
      · exact sp.2.2.1 k (by omega) e2 b1
    · omega
/-! ### tuples in a list -/
def TupsAt {α : Type} (f : α → List V) (H : Hp) : List V → List α → Prop
  | [], [] => True
  | v :: vs, x :: xs => (∃ a, v = .ref a ∧ H a = some (.tup (f x))) ∧ TupsAt f H vs xs
  | _, _ => False
theorem TupsAt.len {α : Type} {f : α → List V} {H : Hp} : ∀ {vs : List V} {xs : List α}, TupsAt f H vs xs → vs.length = xs.length
  | [], [], _ => rfl
  | _ :: vs, _ :: xs, h => by rw [List.length_cons, List.length_cons, TupsAt.len h.2]
  | [], _ :: _, h => h.elim
  | _ :: _, [], h => h.elim
theorem TupsAt.get {α : Type} {f : α → List V} {H : Hp} : ∀ {vs : List V} {xs : List α} {i : Nat} {v : V}, TupsAt f H vs xs → vs[i]? = some v → ∃ x a, xs[i]? = some x ∧ v = .ref a ∧ H a = some (.tup (f x))
  | [], [], _, _, _, e => by cases e
  | y :: vs, x :: xs, 0, v, h, e => by
    obtain ⟨⟨a, h1, h2⟩, _⟩ := h
    have : y = v := Option.some.inj e
    exact ⟨x, a, rfl, by rw [← this, h1], h2⟩
  | y :: vs, x :: xs, i + 1, v, h, e => TupsAt.get (i := i) h.2 e
  | [], _ :: _, _, _, h, _ => h.elim
  | _ :: _, [], _, _, h, _ => h.elim
theorem TupsAt.mono {α : Type} {f : α → List V} {H H' : Hp} : ∀ {vs : List V} {xs : List α}, TupsAt f H vs xs → (∀ a xs, H a = some (.tup xs) → H' a = some (.tup xs)) → TupsAt f H' vs xs
  | [], [], _, _ => trivial
  | y :: vs, x :: xs, h, m => by
    obtain ⟨⟨a, h1, h2⟩, h3⟩ := h
    exact ⟨⟨a, h1, m _ _ h2⟩, TupsAt.mono h3 m⟩
  | [], _ :: _, h, _ => h.elim
  | _ :: _, [], h, _ => h.elim
theorem TupsAt.app {α : Type} {f : α → List V} {H : Hp} {ws : List V} {ys : List α} (k : TupsAt f H ws ys) : ∀ {vs : List V} {xs : List α}, TupsAt f H vs xs → TupsAt f H (vs ++ ws) (xs ++ ys)
  | [], [], _ => k
  | _ :: vs, _ :: xs, h => ⟨h.1, TupsAt.app k h.2⟩
  | [], _ :: _, h => h.elim
  | _ :: _, [], h => h.elim
def stV : Stp → List V
  | .passed => [.str (Str.ofString "passed")]
  | .near d => [.str (Str.ofString "near"), .int d]
  | .plain a b => [.str (Str.ofString "plain"), .int (a : Int), .int (b : Int)]
/-! ### what is walked, where the written part is named -/
theorem pi_tupK {X : Cx} {tg l : Expr} {tl : TE} {K : PySem.W.Frag} (hK : X.K = K) (hl : PE X l tl) : PI X tg l (iTup K tl) := by
  subst hK
  exact pi_tup hl
theorem pi_listK {X : Cx} {tg l : Expr} {tl : TE} {K : PySem.W.Frag} (hK : X.K = K) (hl : PE X l tl) : PI X tg l (iList K tl) := by
  subst hK
  exact pi_list hl
end Fp

set_option Elab.async false
set_option linter.all false
set_option maxRecDepth 100000
set_option maxHeartbeats 4000000
set_option pp.maxSteps 3000
namespace K12
open PySem PySem.Spec PyProof.Rows L2 Fp
def topS (i : Nat) : Stmt := PySem.Challenge.pw_farpage_k12_steps_by_the_row_above.main.body.getD i (.Pass ⟨0, 0, 0, 0⟩)
abbrev s_first_place : Stmt := topS 1
abbrev N_first_place : List Str := ["text", "wanted", "start", "place"]
abbrev P_first_place : List Str := ["text", "wanted", "start"]
theorem sc_first_place : FnScope N_first_place P_first_place (defScope s_first_place) := ⟨rfl, rfl, rfl, by decide +kernel, rfl, by decide +kernel, by decide +kernel⟩
abbrev s_other_cell : Stmt := topS 5
abbrev N_other_cell : List Str := ["cell"]
abbrev P_other_cell : List Str := ["cell"]
theorem sc_other_cell : FnScope N_other_cell P_other_cell (defScope s_other_cell) := ⟨rfl, rfl, rfl, by decide +kernel, rfl, by decide +kernel, by decide +kernel⟩
abbrev s_above_steps : Stmt := topS 9
abbrev N_above_steps : List Str := ["above", "row", "steps", "place", "colour", "step"]
abbrev P_above_steps : List Str := ["above", "row"]
theorem sc_above_steps : FnScope N_above_steps P_above_steps (defScope s_above_steps) := ⟨rfl, rfl, rfl, by decide +kernel, rfl, by decide +kernel, by decide +kernel⟩
abbrev s_step_at : Stmt := topS 10
abbrev N_step_at : List Str := ["above", "row", "place", "colour", "change", "change_above", "behind"]
abbrev P_step_at : List Str := ["above", "row", "place", "colour"]
theorem sc_step_at : FnScope N_step_at P_step_at (defScope s_step_at) := ⟨rfl, rfl, rfl, by decide +kernel, rfl, by decide +kernel, by decide +kernel⟩
abbrev s_first_change : Stmt := topS 11
abbrev N_first_change : List Str := ["above", "place", "colour", "start"]
abbrev P_first_change : List Str := ["above", "place", "colour"]
theorem sc_first_change : FnScope N_first_change P_first_change (defScope s_first_change) := ⟨rfl, rfl, rfl, by decide +kernel, rfl, by decide +kernel, by decide +kernel⟩
abbrev s_led_to : Stmt := topS 12
abbrev N_led_to : List Str := ["above", "place", "colour", "step", "change_above"]
abbrev P_led_to : List Str := ["above", "place", "colour", "step"]
theorem sc_led_to : FnScope N_led_to P_led_to (defScope s_led_to) := ⟨rfl, rfl, rfl, by decide +kernel, rfl, by decide +kernel, by decide +kernel⟩
abbrev s_colour_behind : Stmt := topS 13
abbrev N_colour_behind : List Str := ["colour", "step"]
abbrev P_colour_behind : List Str := ["colour", "step"]
theorem sc_colour_behind : FnScope N_colour_behind P_colour_behind (defScope s_colour_behind) := ⟨rfl, rfl, rfl, by decide +kernel, rfl, by decide +kernel, by decide +kernel⟩
abbrev s_bag : Stmt := topS 15
abbrev N_bag : List Str := ["_law_script", "_law_at", "_law_cell", "_law_great"]
abbrev P_bag : List Str := ["_law_script", "_law_at"]
theorem sc_bag : FnScope N_bag P_bag (defScope s_bag) := ⟨rfl, rfl, rfl, by decide +kernel, rfl, by decide +kernel, by decide +kernel⟩
abbrev s_draw : Stmt := topS 16
abbrev N_draw : List Str := ["_law_bag_here", "_law_many", "_law_digit"]
abbrev P_draw : List Str := ["_law_bag_here", "_law_many"]
theorem sc_draw : FnScope N_draw P_draw (defScope s_draw) := ⟨rfl, rfl, rfl, by decide +kernel, rfl, by decide +kernel, by decide +kernel⟩
abbrev s_row : Stmt := topS 17
abbrev N_row : List Str := ["_law_bag_here", "_law_breadth", "_law_above", "_law_way", "_law_row_here", "_law_most", "_law_colour", "_law_left", "_law_place", "_law_turn"]
abbrev P_row : List Str := ["_law_bag_here", "_law_breadth", "_law_above"]
theorem sc_row : FnScope N_row P_row (defScope s_row) := ⟨rfl, rfl, rfl, by decide +kernel, rfl, by decide +kernel, by decide +kernel⟩
abbrev s_pair : Stmt := topS 18
abbrev N_pair : List Str := ["_law_bag_here", "_law_breadth", "_law_above", "_law_row_here", "_law_slide", "_law_place"]
abbrev P_pair : List Str := ["_law_bag_here"]
theorem sc_pair : FnScope N_pair P_pair (defScope s_pair) := ⟨rfl, rfl, rfl, by decide +kernel, rfl, by decide +kernel, by decide +kernel⟩
abbrev s_whole : Stmt := topS 19
abbrev N_whole : List Str := ["_law_thing"]
abbrev P_whole : List Str := ["_law_thing"]
theorem sc_whole : FnScope N_whole P_whole (defScope s_whole) := ⟨rfl, rfl, rfl, by decide +kernel, rfl, by decide +kernel, by decide +kernel⟩
abbrev s_own : Stmt := topS 20
abbrev N_own : List Str := ["_law_row_here", "_law_place", "_law_colour", "_law_k"]
abbrev P_own : List Str := ["_law_row_here", "_law_place", "_law_colour"]
theorem sc_own : FnScope N_own P_own (defScope s_own) := ⟨rfl, rfl, rfl, by decide +kernel, rfl, by decide +kernel, by decide +kernel⟩
abbrev s_far : Stmt := topS 21
abbrev N_far : List Str := ["_law_above", "_law_place", "_law_colour", "_law_k"]
abbrev P_far : List Str := ["_law_above", "_law_place", "_law_colour"]
theorem sc_far : FnScope N_far P_far (defScope s_far) := ⟨rfl, rfl, rfl, by decide +kernel, rfl, by decide +kernel, by decide +kernel⟩
abbrev s_back : Stmt := topS 22
abbrev N_back : List Str := ["_law_row_here", "_law_place", "_law_colour", "_law_k"]
abbrev P_back : List Str := ["_law_row_here", "_law_place", "_law_colour"]
theorem sc_back : FnScope N_back P_back (defScope s_back) := ⟨rfl, rfl, rfl, by decide +kernel, rfl, by decide +kernel, by decide +kernel⟩
abbrev s_steps : Stmt := topS 23
abbrev N_steps : List Str := ["_law_above", "_law_row_here", "_law_found", "_law_place", "_law_colour", "_law_turn", "_law_own_here", "_law_far_here", "_law_back_here", "_law_end"]
abbrev P_steps : List Str := ["_law_above", "_law_row_here"]
theorem sc_steps : FnScope N_steps P_steps (defScope s_steps) := ⟨rfl, rfl, rfl, by decide +kernel, rfl, by decide +kernel, by decide +kernel⟩
abbrev s_good : Stmt := topS 24
abbrev N_good : List Str := ["_law_above", "_law_row_here", "_law_due", "_law_found", "_law_step", "_law_colour", "_law_number"]
abbrev P_good : List Str := ["_law_above", "_law_row_here"]
theorem sc_good : FnScope N_good P_good (defScope s_good) := ⟨rfl, rfl, rfl, by decide +kernel, rfl, by decide +kernel, by decide +kernel⟩
abbrev s_law : Stmt := topS 25
abbrev N_law : List Str := ["_law_script", "_law_k", "_law_bag_here", "_law_above", "_law_row_here"]
abbrev P_law : List Str := ["_law_script"]
theorem sc_law : FnScope N_law P_law (defScope s_law) := ⟨rfl, rfl, rfl, by decide +kernel, rfl, by decide +kernel, by decide +kernel⟩
abbrev osc_0 : Scope := { kind := ScopeKind.function, names := [(Str.ofString ".0", NameKind.local), (Str.ofString "_law_step", NameKind.local), (Str.ofString "all", NameKind.globalImplicit)], isGenerator := false, isCoroutine := false }
structure Ad where
  a_first_place : Addr
  d_first_place : FuncData
  a_other_cell : Addr
  d_other_cell : FuncData
  a_above_steps : Addr
  d_above_steps : FuncData
  a_step_at : Addr
  d_step_at : FuncData
  a_first_change : Addr
  d_first_change : FuncData
  a_led_to : Addr
  d_led_to : FuncData
  a_colour_behind : Addr
  d_colour_behind : FuncData
  a_bag : Addr
  d_bag : FuncData
  a_draw : Addr
  d_draw : FuncData
  a_row : Addr
  d_row : FuncData
  a_pair : Addr
  d_pair : FuncData
  a_whole : Addr
  d_whole : FuncData
  a_own : Addr
  d_own : FuncData
  a_far : Addr
  d_far : FuncData
  a_back : Addr
  d_back : FuncData
  a_steps : Addr
  d_steps : FuncData
  a_good : Addr
  d_good : FuncData
  a_law : Addr
  d_law : FuncData
  t_AHEAD : Tok
  t_DARK : Tok
  t_LIGHT : Tok
  t_MOST_NEAR : Tok
structure Txt (w : World) (K : PySem.W.Frag) (mg : Str → Option Value) (base : Heap) (A : Ad) : Prop where
  F_first_place : Fun K "first_place" "first_place" s_first_place A.a_first_place A.d_first_place
  b_first_place : Binds K A.d_first_place P_first_place []
  g_first_place : mg "first_place" = some (.ref A.a_first_place)
  F_other_cell : Fun K "other_cell" "other_cell" s_other_cell A.a_other_cell A.d_other_cell
  b_other_cell : Binds K A.d_other_cell P_other_cell []
  g_other_cell : mg "other_cell" = some (.ref A.a_other_cell)
  F_above_steps : Fun K "above_steps" "above_steps" s_above_steps A.a_above_steps A.d_above_steps
  b_above_steps : Binds K A.d_above_steps P_above_steps []
  g_above_steps : mg "above_steps" = some (.ref A.a_above_steps)
  F_step_at : Fun K "step_at" "step_at" s_step_at A.a_step_at A.d_step_at
  b_step_at : Binds K A.d_step_at P_step_at []
  g_step_at : mg "step_at" = some (.ref A.a_step_at)
  F_first_change : Fun K "first_change" "first_change" s_first_change A.a_first_change A.d_first_change
  b_first_change : Binds K A.d_first_change P_first_change []
  g_first_change : mg "first_change" = some (.ref A.a_first_change)
  F_led_to : Fun K "led_to" "led_to" s_led_to A.a_led_to A.d_led_to
  b_led_to : Binds K A.d_led_to P_led_to []
  g_led_to : mg "led_to" = some (.ref A.a_led_to)
  F_colour_behind : Fun K "colour_behind" "colour_behind" s_colour_behind A.a_colour_behind A.d_colour_behind
  b_colour_behind : Binds K A.d_colour_behind P_colour_behind []
  g_colour_behind : mg "colour_behind" = some (.ref A.a_colour_behind)
  F_bag : Fun K "_law_bag" "_law_bag" s_bag A.a_bag A.d_bag
  b_bag : Binds K A.d_bag P_bag []
  g_bag : mg "_law_bag" = some (.ref A.a_bag)
  F_draw : Fun K "_law_draw" "_law_draw" s_draw A.a_draw A.d_draw
  b_draw : Binds K A.d_draw P_draw []
  g_draw : mg "_law_draw" = some (.ref A.a_draw)
  F_row : Fun K "_law_row" "_law_row" s_row A.a_row A.d_row
  b_row : Binds K A.d_row P_row []
  g_row : mg "_law_row" = some (.ref A.a_row)
  F_pair : Fun K "_law_pair" "_law_pair" s_pair A.a_pair A.d_pair
  b_pair : Binds K A.d_pair P_pair []
  g_pair : mg "_law_pair" = some (.ref A.a_pair)
  F_whole : Fun K "_law_whole" "_law_whole" s_whole A.a_whole A.d_whole
  b_whole : Binds K A.d_whole P_whole []
  g_whole : mg "_law_whole" = some (.ref A.a_whole)
  F_own : Fun K "_law_own" "_law_own" s_own A.a_own A.d_own
  b_own : Binds K A.d_own P_own []
  g_own : mg "_law_own" = some (.ref A.a_own)
  F_far : Fun K "_law_far" "_law_far" s_far A.a_far A.d_far
  b_far : Binds K A.d_far P_far []
  g_far : mg "_law_far" = some (.ref A.a_far)
  F_back : Fun K "_law_back" "_law_back" s_back A.a_back A.d_back
  b_back : Binds K A.d_back P_back []
  g_back : mg "_law_back" = some (.ref A.a_back)
  F_steps : Fun K "_law_steps" "_law_steps" s_steps A.a_steps A.d_steps
  b_steps : Binds K A.d_steps P_steps []
  g_steps : mg "_law_steps" = some (.ref A.a_steps)
  F_good : Fun K "_law_good" "_law_good" s_good A.a_good A.d_good
  b_good : Binds K A.d_good P_good []
  g_good : mg "_law_good" = some (.ref A.a_good)
  F_law : Fun K "law" "law" s_law A.a_law A.d_law
  g_law : mg "law" = some (.ref A.a_law)
  z_abs : mg "abs" = none
  z_all : mg "all" = none
  z_bool : mg "bool" = none
  z_int : mg "int" = none
  z_isinstance : mg "isinstance" = none
  z_len : mg "len" = none
  z_list : mg "list" = none
  z_max : mg "max" = none
  z_min : mg "min" = none
  z_range : mg "range" = none
  c_AHEAD : mg "AHEAD" = some (.int (-1) A.t_AHEAD)
  c_DARK : mg "DARK" = some (.str "#" A.t_DARK)
  c_LIGHT : mg "LIGHT" = some (.str "." A.t_LIGHT)
  c_MOST_NEAR : mg "MOST_NEAR" = some (.int (3) A.t_MOST_NEAR)
section
variable {P : Program} {w : World} {K : PySem.W.Frag} {mg : Str → Option Value} {base : Heap}
def spBag (K : PySem.W.Frag) : Sp := fun vs H Q _ => ∃ (a : Addr) (ns : List Int) (k : Int), vs = [.ref a, .int k] ∧ SqL K H a (ns.map V.int) ∧ 0 ≤ k ∧ k ≤ 1000 ∧
  ∀ p g s, H p = none → 0 ≤ g → 0 ≤ s → s < 1000000000000 → Q (.ref p) (upd H p (.lst [.int g, .int s]))
theorem ok_bag {A : Ad} (T : Txt w K mg base A) : FnOk P w K mg base CX0 1 A.a_bag A.d_bag P_bag (spBag K) := by
  refine T.F_bag.ok sc_bag (fun vs H Q E h => ?_) (fun cdv Ar outer s H vs Q E hr h => ?_)
  · obtain ⟨a, ns, k, rfl, _⟩ := h
    rfl
  · obtain ⟨a, ns, k, rfl, hS, k0, k1, q⟩ := h
    refine ⟨_, (pss_cons (ps_set (i := 2) sc_bag.nd rfl (Or.inl rfl) pe_int)
      (pss_cons (ps_if (pt_cmpR op_lt (pv 1) (pe_callB (r := fun xs H Q => ∃ p ys, xs = [.ref p] ∧ (SqL K H p ys ∨ SqT K H p ys) ∧ Q (.int ys.length) H) call_len_seq (by rfl) T.z_len PySem.boot_len (pa_cons (pv 0) pa_nil)) (nomark _))
      (pss_one (ps_set (i := 2) sc_bag.nd rfl (Or.inl rfl) (pe_ix (r := rIxL K) ix_list (pv 0) (pv 1) (fun _ _ => rfl)))) pss_nil)
      (pss_cons (ps_set (i := 3) sc_bag.nd rfl (Or.inl rfl) pe_int)
      (pss_cons (ps_if (pt_cmpR op_ge (pe_callB call_abs (by rfl) T.z_abs (by decide +kernel) (pa_cons (pv 2) pa_nil)) (pe_op op_pow pe_int pe_int) (nomark _))
      (pss_one (ps_set (i := 3) sc_bag.nd rfl (Or.inl rfl) (pe_callB call_abs (by rfl) T.z_abs (by decide +kernel) (pa_cons (pv 2) pa_nil)))) pss_nil)
      (pss_one (ps_ret (pe_lst (pa_cons (pv 3) (pa_cons (pe_op op_add (pe_op op_add (pe_op op_mul (pe_op op_mod (pv 2) pe_int) pe_int) (pe_op op_mul pe_int (pv 1))) pe_int) pa_nil))))))))), ?_⟩
    have fin : ∀ (c g : Int), 0 ≤ g → tSeq (tIfS (tTest (tOp (rI0 fun i j => .bl (decide (j ≤ i))) (tCB (fun xs H Q => ∃ i, xs = [.int i] ∧ Q (.int (if i < 0 then -i else i)) H) (tCons (tVar 2) tNil)) (tOp (rI CPow fun i j => .int (i ^ j.toNat)) (tC (.int 10)) (tC (.int 18))))) (tAsg (tCB (fun xs H Q => ∃ i, xs = [.int i] ∧ Q (.int (if i < 0 then -i else i)) H) (tCons (tVar 2) tNil)) (gName 3)) tNext)
        (tRet (tLst (tCons (tVar 3) (tCons (tOp (rI0 fun i j => .int (i + j)) (tOp (rI0 fun i j => .int (i + j)) (tOp (rI CMul fun i j => .int (i * j)) (tOp (rI (fun _ j => 0 < j) fun i j => .int (i % j)) (tVar 2) (tC (.int 1000000007))) (tC (.int 7))) (tOp (rI CMul fun i j => .int (i * j)) (tC (.int 1013)) (tVar 1))) (tC (.int 5))) tNil)))) { nx := fun _ H' => Q .non H', rt := Q } [some (.ref a), some (.int k), some (.int c), some (.int g)] H := by
      intro c g g0
      have fin2 : ∀ (g : Int), 0 ≤ g → tRet (tLst (tCons (tVar 3) (tCons (tOp (rI0 fun i j => .int (i + j)) (tOp (rI0 fun i j => .int (i + j)) (tOp (rI CMul fun i j => .int (i * j)) (tOp (rI (fun _ j => 0 < j) fun i j => .int (i % j)) (tVar 2) (tC (.int 1000000007))) (tC (.int 7))) (tOp (rI CMul fun i j => .int (i * j)) (tC (.int 1013)) (tVar 1))) (tC (.int 5))) tNil))) { nx := fun _ H' => Q .non H', rt := Q } [some (.ref a), some (.int k), some (.int c), some (.int g)] H := by
        intro g g0
        have m0 := Int.emod_nonneg c (show (1000000007 : Int) ≠ 0 by decide)
        have m1 := Int.emod_lt_of_pos c (show (0 : Int) < 1000000007 by decide)
        refine ⟨_, rfl, _, rfl, _, _, rfl, rfl, (by show (0 : Int) < 1000000007; decide), _, _, rfl, rfl, .inr ⟨by decide, by decide⟩, _, rfl, _, _, rfl, rfl, .inl ⟨by decide, by decide⟩, _, _, rfl, rfl, _, _, rfl, rfl, (by show 2 ≤ sizeLine; decide), fun p hp => ?_⟩
        exact q p g _ hp g0 (by omega) (by omega)
      refine ⟨_, rfl, _, rfl, _, _, rfl, rfl, ⟨by decide, by decide, by decide⟩, _, _, rfl, rfl, _, rfl, ite2 (fun e => ?_) (fun e => ?_)⟩
      · refine ⟨_, rfl, _, rfl, fin2 _ ?_⟩
        split <;> omega
      · exact fin2 g g0
    refine ⟨_, rfl, _, rfl, _, _, rfl, .inl hS, _, _, rfl, rfl, _, rfl, ite2 (fun e => ?_) (fun e => ?_)⟩
    · have lt : k < ((ns.map V.int).length : Int) := of_decide_eq_true e
      obtain ⟨j, rfl⟩ := Int.eq_ofNat_of_zero_le k0
      have hj : j < ns.length := by
        rw [List.length_map] at lt
        omega
      have g : (ns.map V.int)[j]? = some (.int ns[j]) := by
        rw [List.getElem?_map, List.getElem?_eq_getElem hj]
        rfl
      refine ⟨_, rfl, _, rfl, _, _, _, _, rfl, rfl, hS, atI_nat g, ?_⟩
      exact fin _ 0 (Int.le_refl _)
    · exact fin 0 0 (Int.le_refl _)
def spDraw : Sp := fun vs H Q _ => ∃ (b : Addr) (m : Int), vs = [.ref b, .int m] ∧ BagAt H b ∧ 0 < m ∧ m < 1000000 ∧
  ∀ (d : Int) (H' : Hp), 0 ≤ d → d < m → Bx b H H' → Q (.int d) H'
theorem ok_draw {A : Ad} (T : Txt w K mg base A) : FnOk P w K mg base CX0 1 A.a_draw A.d_draw P_draw spDraw := by
  refine T.F_draw.ok sc_draw (fun vs H Q E h => ?_) (fun cdv Ar outer s H vs Q E hr h => ?_)
  · obtain ⟨b, m, rfl, _⟩ := h
    rfl
  · obtain ⟨b, m, rfl, ⟨g, s, hb, g0, s0, s1⟩, m0, m1, q⟩ := h
    refine ⟨_, (pss_cons (ps_if (pt_cmpR op_gt (pe_ix (r := rIxL K) ix_list (pv 0) pe_int (fun _ _ => rfl)) pe_int (nomark _))
      (pss_cons (ps_set (i := 2) sc_draw.nd rfl (Or.inl rfl) (pe_op op_mod (pe_ix (r := rIxL K) ix_list (pv 0) pe_int (fun _ _ => rfl)) (pv 1)))
      (pss_cons (ps_asg (pe_op op_fdiv (pe_ix (r := rIxL K) ix_list (pv 0) pe_int (fun _ _ => rfl)) (pv 1)) (pg_sub (pv 0) pe_int set_list))
      (pss_one (ps_ret (pv 2))))) pss_nil)
      (pss_cons (ps_asg (pe_op op_mod (pe_op op_add (pe_op op_mul (pe_ix (r := rIxL K) ix_list (pv 0) pe_int (fun _ _ => rfl)) pe_int) pe_int) pe_int) (pg_sub (pv 0) pe_int set_list))
      (pss_one (ps_ret (pe_op op_mod (pe_op op_mod (pe_op op_pow (pe_op op_fdiv (pe_ix (r := rIxL K) ix_list (pv 0) pe_int (fun _ _ => rfl)) pe_int) pe_int) pe_int) (pv 1)))))), ?_⟩
    refine ⟨_, rfl, _, _, _, _, rfl, rfl, SqL.of hb, atI_nat (j := 0) rfl, _, _, rfl, rfl, _, rfl, ite2 (fun e => ?_) (fun e => ?_)⟩
    · refine ⟨_, rfl, _, _, _, _, rfl, rfl, SqL.of hb, atI_nat (j := 0) rfl, _, rfl, _, _, rfl, rfl, m0, ?_⟩
      refine ⟨_, rfl, _, _, _, _, rfl, rfl, SqL.of hb, atI_nat (j := 0) rfl, _, rfl, _, _, rfl, rfl, ⟨m0, by omega⟩, _, rfl, _, _, _, _, rfl, rfl, hb, Evl.ixN_nat (j := 0) (by show 0 < 2; decide), ?_⟩
      refine ⟨_, rfl, ?_⟩
      exact q _ _ (Int.emod_nonneg _ (by omega)) (Int.emod_lt_of_pos _ m0) (Bx.drawn (Int.ediv_nonneg g0 (by omega)) s0 s1)
    · have t0 := Int.emod_nonneg (s * 69621 + 1234567) (show (2147483647 : Int) ≠ 0 by decide)
      have t1 := Int.emod_lt_of_pos (s * 69621 + 1234567) (show (0 : Int) < 2147483647 by decide)
      refine ⟨_, rfl, _, _, _, _, rfl, rfl, SqL.of hb, atI_nat (j := 1) rfl, _, _, rfl, rfl, .inr ⟨by decide, by decide⟩, _, _, rfl, rfl, _, _, rfl, rfl, (by show (0 : Int) < 2147483647; decide), _, rfl, _, _, _, _, rfl, rfl, hb, Evl.ixN_nat (j := 1) (by show 1 < 2; decide), ?_⟩
      refine ⟨_, rfl, _, _, _, _, rfl, rfl, SqL.of upd_same, atI_nat (j := 1) rfl, _, _, rfl, rfl, ⟨by decide, by decide⟩, _, _, rfl, rfl, ⟨by decide, by decide, ?_⟩, _, _, rfl, rfl, (by show (0 : Int) < 998244353; decide), _, rfl, _, _, rfl, rfl, m0, ?_⟩
      · omega
      · exact q _ _ (Int.emod_nonneg _ (by omega)) (Int.emod_lt_of_pos _ m0) (Bx.drawn g0 t0 (by omega))

/-! ### a row is drawn -/
def RM (b : Addr) (m : Nat) (up : List Nat) (way : Int) (H : Hp) : L2.St → Hp → Prop := fun σ H' => ∃ (p : Addr) (l : List Nat) (y5 y6 y7 y8 y9 : Option V), σ = [some (.ref b), some (.int (m : Int)), some (.str (sOf up)), some (.int way), some (.ref p), y5, y6, y7, y8, y9] ∧ H' p = some (.lst (cells l)) ∧ H p = none ∧ l.length = m ∧ Row l ∧ Bx b H H'
def spRow : Sp := fun vs H Q _ => ∃ (b : Addr) (m : Nat) (up : List Nat) (x : Int), vs = [.ref b, .int x, .str (sOf up)] ∧ x = m ∧ BagAt H b ∧ 1 ≤ m ∧ m ≤ 1000 ∧ up.length = m ∧ Row up ∧ ∀ l H', l.length = m → Row l → Bx b H H' → Q (.str (sOf l)) H'
theorem ok_row {A : Ad} (T : Txt w K mg base A) : FnOk P w K mg base CX0 2 A.a_row A.d_row P_row spRow := by
  have G_draw := ok_draw (P := P) (w := w) (base := base) T
  refine T.F_row.ok sc_row (fun vs H Q E h => ?_) (fun cdv Ar outer s H vs Q E hr h => ?_)
  · obtain ⟨b, m, up, x, rfl, _⟩ := h
    rfl
  · obtain ⟨b, m, up, _, rfl, rfl, hb, m0, m1, lu, ru, q⟩ := h
    refine ⟨_, (pss_cons (ps_set (i := 3) sc_row.nd rfl (Or.inl rfl) (pe_call G_draw (hr.mono (by decide)) (by rfl) T.g_draw T.F_draw.kp T.b_draw .nil pass0 (pa_cons (pv 0) (pa_cons pe_int pa_nil))))
      (pss_cons (ps_set (i := 4) sc_row.nd rfl (Or.inl rfl) (pe_op op_rep (pe_lst (pa_cons (pe_ix ix_str pe_str (pe_call G_draw (hr.mono (by decide)) (by rfl) T.g_draw T.F_draw.kp T.b_draw .nil pass0 (pa_cons (pv 0) (pa_cons pe_int pa_nil))) (fun _ _ => rfl)) pa_nil)) (pv 1)))
      (Evl.pss_cut (ps_if (pt_cmpR op_eq (pv 3) pe_int (nomark _))
      (pss_one (ps_setLc (i := 4) (own := [("_law_place", 8)]) (g := gName 8) (tt := tYes) (by rfl) sc_row.nd rfl rfl (sw_true rfl rfl rfl (by decide +kernel)) (pi_range1 (by rfl) T.z_range (pa_cons (pv 1) pa_nil)) (blkOk_by (own := [("_law_place", 8)]) (N := N_row) (sc := defScope s_row) (by decide +kernel)) (fun _ _ _ _ _ => pg_name (i := 8) sc_row.nd rfl (Or.inl rfl)) (fun _ _ _ _ _ => pts_nil) (fun s5 H5 C5 cl5 fp5 => (pe_ix ix_str pe_str (pe_call G_draw (hr.mono (by decide)) (by rfl) T.g_draw T.F_draw.kp T.b_draw .nil pass0 (pa_cons (pv 0) (pa_cons pe_int pa_nil))) (fun _ _ => rfl))))) pss_nil)
      (Evl.pss_cut (ps_if (pt_cmpR op_eq (pv 3) pe_int (nomark _))
      (pss_cons (ps_set (i := 5) sc_row.nd rfl (Or.inl rfl) (pe_op op_add pe_int (pe_call G_draw (hr.mono (by decide)) (by rfl) T.g_draw T.F_draw.kp T.b_draw .nil pass0 (pa_cons (pv 0) (pa_cons (pv 1) pa_nil)))))
      (pss_cons (ps_set (i := 6) sc_row.nd rfl (Or.inl rfl) (pe_call G_draw (hr.mono (by decide)) (by rfl) T.g_draw T.F_draw.kp T.b_draw .nil pass0 (pa_cons (pv 0) (pa_cons pe_int pa_nil))))
      (pss_cons (ps_set (i := 7) sc_row.nd rfl (Or.inl rfl) pe_int)
      (pss_one (ps_for PassesOwn.never rfl (pi_range1 (by rfl) T.z_range (pa_cons (pv 1) pa_nil)) (pg_name (i := 8) sc_row.nd rfl (Or.inl rfl))
      (Evl.pss_cut (ps_if (pt_cmpR op_eq (pv 7) pe_int (nomark _))
      (pss_cons (ps_set (i := 6) sc_row.nd rfl (Or.inl rfl) (pe_op op_sub pe_int (pv 6)))
      (pss_one (ps_set (i := 7) sc_row.nd rfl (Or.inl rfl) (pe_op op_add pe_int (pe_call G_draw (hr.mono (by decide)) (by rfl) T.g_draw T.F_draw.kp T.b_draw .nil pass0 (pa_cons (pv 0) (pa_cons (pv 5) pa_nil))))))) pss_nil)
      (pss_cons (ps_asg (pe_ix ix_str pe_str (pv 6) (fun _ _ => rfl)) (pg_sub (pv 4) (pv 8) set_list))
      (pss_one (ps_set (i := 7) sc_row.nd rfl (Or.inl rfl) (pe_op op_sub (pv 7) pe_int)))))))))) pss_nil)
      (Evl.pss_cut (ps_if (pt_cmpR op_eq (pv 3) pe_int (nomark _))
      (pss_cons (ps_set (i := 4) sc_row.nd rfl (Or.inl rfl) (pe_callTy (call_list_str rfl) (by rfl) T.z_list (by decide +kernel) (pa_cons (pv 2) pa_nil)))
      (pss_one (ps_for PassesOwn.never rfl (pi_range1 (by rfl) T.z_range (pa_cons pe_int pa_nil)) (pg_name (i := 9) sc_row.nd rfl (Or.inl rfl))
      (pss_one (ps_asg (pe_ix ix_str pe_str (pe_call G_draw (hr.mono (by decide)) (by rfl) T.g_draw T.F_draw.kp T.b_draw .nil pass0 (pa_cons (pv 0) (pa_cons pe_int pa_nil))) (fun _ _ => rfl)) (pg_sub (pv 4) (pe_call G_draw (hr.mono (by decide)) (by rfl) T.g_draw T.F_draw.kp T.b_draw .nil pass0 (pa_cons (pv 0) (pa_cons (pv 1) pa_nil))) set_list)))))) pss_nil)
      (pss_one (ps_ret (pe_join pe_str (pv 4))))))))), ?_⟩
    -- way, row_here
    refine ⟨_, rfl, b, 4, rfl, hb, by decide, by decide, fun way H1 w0 w1 bx1 => ?_⟩
    refine ⟨_, rfl, b, 2, rfl, bx1.1, by decide, by decide, fun d H2 d0 d1 bx2 => ⟨_, _, _, rfl, rfl, two_len, cell_at d0 d1, (by show 1 ≤ sizeLine; decide), fun p1 hp1 => ⟨_, rfl, _, _, _, rfl, rfl, upd_same, by omega, by omega, ?_, fun p hp => ?_⟩⟩⟩
    · show 1 * (m : Int).toNat ≤ sizeLine
      exact sz (by omega)
    have bx3 : Bx b H (upd H2 p1 (.lst [.str ⟨#[cellN d]⟩])) := (bx1.trans bx2).same (same_new hp1)
    have R0 : RM b m up way H [some (.ref b), some (.int (m : Int)), some (.str (sOf up)), some (.int way), some (.ref p), none, none, none, none, none] (upd (upd H2 p1 (.lst [.str ⟨#[cellN d]⟩])) p (.lst (List.replicate (m : Int).toNat [V.str ⟨#[cellN d]⟩]).flatten)) := by
      refine ⟨p, List.replicate m (cellN d), none, none, none, none, none, rfl, ?_, bx3.free hp, List.length_replicate, Row.rep (cellN_cell d), bx3.same (same_new hp)⟩
      rw [upd_same]
      exact congrArg (fun z => some (HO.lst z)) (rep_one m (cellN d))
    refine ⟨RM b m up way H, ?_, ?_⟩
    · -- way 0
      refine ⟨_, rfl, rfl, _, rfl, ite2 (fun e => ?_) (fun e => R0)⟩
      obtain ⟨_, _, _, _, _, _, _, _, _, _, _, _, bx4⟩ := R0
      refine ⟨_, rfl, _, rfl, by omega, by omega, fun D hD => lc_range (lo := 0) (n := m) (fun i H' => ∃ l, H' D = some (.lst (cells l)) ∧ l.length = i ∧ Row l ∧ Bx b H H') ⟨[], upd_same, rfl, Row.nil, bx4.same (same_new hD)⟩ ?_ ?_⟩
      · rintro i H' hi ⟨l, hl, ll, rl, bx5⟩
        have nD : D ≠ b := BagAt.ne bx4.1 hD
        have fD : H D = none := bx4.free hD
        refine ⟨rfl, _, rfl, b, 2, rfl, bx5.1, by decide, by decide, fun d2 H5 e0 e1 bx6 => ⟨_, _, _, rfl, rfl, two_len, cell_at e0 e1, _, bx6.2 _ _ nD hl, ?_, l ++ [cellN d2], ?_, ?_, rl.app (cellN_cell d2), (bx5.trans bx6).mut fD nD⟩⟩
        · rw [cells_len]
          exact szl (by omega)
        · rw [upd_same]
          exact congrArg (fun z => some (HO.lst z)) (cells_app l (cellN d2))
        · rw [List.length_append, ll]
          rfl
      · rintro H' ⟨l, hl, ll, rl, bx5⟩
        exact ⟨D, l, _, _, _, _, _, rfl, hl, bx4.free hD, ll, rl, bx5⟩
    · rintro σ H3 ⟨p, l, y5, y6, y7, y8, y9, rfl, hp, fp, ll, rl, bx⟩
      refine ⟨RM b m up way H, ?_, ?_⟩
      · -- way 1
        refine ⟨_, rfl, rfl, _, rfl, ite2 (fun e => ?_) (fun e => ⟨p, l, y5, y6, y7, y8, y9, rfl, hp, fp, ll, rl, bx⟩)⟩
        have nP : p ≠ b := BagAt.ne hb fp
        refine ⟨_, rfl, _, rfl, b, _, rfl, bx.1, by omega, by omega, fun most H4 o0 o1 bx4 => ⟨_, _, rfl, rfl, ?_⟩⟩
        refine ⟨_, rfl, b, 2, rfl, bx4.1, by decide, by decide, fun col H5 c0 c1 bx5 => ?_⟩
        refine ⟨_, rfl, _, rfl, by omega, by omega, for_range (lo := 0) (n := m) (fun i σ H' => ∃ (l : List Nat) (c left : Int) (y8 : Option V), σ = [some (.ref b), some (.int (m : Int)), some (.str (sOf up)), some (.int way), some (.ref p), some (.int (1 + most)), some (.int c), some (.int left), y8, y9] ∧ 0 ≤ c ∧ c < 2 ∧ H' p = some (.lst (cells l)) ∧ l.length = m ∧ Row l ∧ Bx b H H')
          ⟨l, col, 0, y8, rfl, c0, c1, bx5.2 _ _ nP (bx4.2 _ _ nP hp), ll, rl, (bx.trans bx4).trans bx5⟩ ?_ ?_⟩
        · rintro i σ H' hi ⟨l, c, left, y8, rfl, c0, c1, hp, ll, rl, bx⟩
          refine ⟨fun σ H' => ∃ (c left : Int) (y8 : Option V), σ = [some (.ref b), some (.int (m : Int)), some (.str (sOf up)), some (.int way), some (.ref p), some (.int (1 + most)), some (.int c), some (.int left), some (.int (0 + (i : Int))), y9] ∧ 0 ≤ c ∧ c < 2 ∧ H' p = some (.lst (cells l)) ∧ Bx b H H', ?_, ?_⟩
          · refine ⟨_, rfl, rfl, _, rfl, ite2 (fun e => ?_) (fun e => ⟨c, left, y8, rfl, c0, c1, hp, bx⟩)⟩
            refine ⟨_, rfl, _, _, rfl, rfl, ?_⟩
            refine ⟨_, rfl, _, rfl, b, _, rfl, bx.1, by omega, by omega, fun d H6 e0 e1 bx6 => ⟨_, _, rfl, rfl, ?_⟩⟩
            exact ⟨1 - c, 1 + d, y8, rfl, by omega, by omega, bx6.2 _ _ nP hp, bx.trans bx6⟩
          · rintro σ H' ⟨c, left, _, rfl, c0, c1, hp, bx⟩
            refine ⟨_, rfl, _, _, _, rfl, rfl, two_len, cell_at c0 c1, _, rfl, _, rfl, _, _, _, _, rfl, rfl, hp, (by rw [Int.zero_add]; exact Evl.ixN_nat (by rw [cells_len]; omega)), ?_⟩
            refine ⟨_, rfl, _, _, rfl, rfl, ?_⟩
            refine ⟨l.set i (cellN c), c, left - 1, some (.int (0 + (i : Int))), rfl, c0, c1, ?_, ?_, rl.set (cellN_cell c), bx.mut fp nP⟩
            · rw [upd_same]
              exact congrArg (fun z => some (HO.lst z)) (cells_set l i (cellN c))
            · rw [List.length_set]
              exact ll
        · rintro σ H' ⟨l, c, left, y8, rfl, c0, c1, hp, ll, rl, bx⟩
          exact ⟨p, l, _, _, _, _, _, rfl, hp, fp, ll, rl, bx⟩
      · rintro σ H3 ⟨p, l, y5, y6, y7, y8, y9, rfl, hp, fp, ll, rl, bx⟩
        refine ⟨RM b m up way H, ?_, ?_⟩
        · -- way 2
          refine ⟨_, rfl, rfl, _, rfl, ite2 (fun e => ?_) (fun e => ⟨p, l, y5, y6, y7, y8, y9, rfl, hp, fp, ll, rl, bx⟩)⟩
          refine ⟨_, rfl, up, rfl, by omega, fun p2 hp2 => ?_⟩
          have f2 : H p2 = none := bx.free hp2
          have n2 : p2 ≠ b := BagAt.ne bx.1 hp2
          refine ⟨_, rfl, by decide, by decide, for_range (lo := 0) (n := 3) (fun i σ H' => ∃ (l : List Nat) (y9 : Option V), σ = [some (.ref b), some (.int (m : Int)), some (.str (sOf up)), some (.int way), some (.ref p2), y5, y6, y7, y8, y9] ∧ H' p2 = some (.lst (cells l)) ∧ l.length = m ∧ Row l ∧ Bx b H H')
            ⟨up, y9, rfl, upd_same, lu, ru, bx.same (same_new hp2)⟩ ?_ ?_⟩
          · rintro i σ H' hi ⟨l, y9, rfl, hp, ll, rl, bx⟩
            refine ⟨_, rfl, b, 2, rfl, bx.1, by decide, by decide, fun d H5 d0 d1 bx5 => ⟨_, _, _, rfl, rfl, two_len, cell_at d0 d1, _, rfl, _, rfl, _, rfl, b, _, rfl, bx5.1, by omega, by omega, fun j H6 j0 j1 bx6 => ?_⟩⟩
            obtain ⟨k, rfl⟩ := Int.eq_ofNat_of_zero_le j0
            refine ⟨_, _, _, k, rfl, rfl, bx6.2 _ _ n2 (bx5.2 _ _ n2 hp), Evl.ixN_nat (by rw [cells_len]; omega), ?_⟩
            refine ⟨l.set k (cellN d), _, rfl, ?_, ?_, rl.set (cellN_cell d), ((bx.trans bx5).trans bx6).mut f2 n2⟩
            · rw [upd_same]
              exact congrArg (fun z => some (HO.lst z)) (cells_set l k (cellN d))
            · rw [List.length_set]
              exact ll
          · rintro σ H' ⟨l, y9, rfl, hp, ll, rl, bx⟩
            exact ⟨p2, l, _, _, _, _, _, rfl, hp, f2, ll, rl, bx⟩
        · rintro σ H3 ⟨p, l, y5, y6, y7, y8, y9, rfl, hp, fp, ll, rl, bx⟩
          refine ⟨⟨_, rfl⟩, _, rfl, _, _, l.map fun c => sOf [c], rfl, rfl, .inl (SqL.of (by rw [← cells_strs]; exact hp)), join_size (by omega), ?_⟩
          rw [join_cells]
          exact q l H3 ll rl bx

def spFirst : Sp := fun vs H Q _ => ∃ (l : List Nat) (c s : Nat) (x : Int), vs = [.str (sOf l), .str (sOf [c]), .int x] ∧ x = s ∧ l.length ≤ 100000 ∧ Q (.int (fp l c s : Int)) H
theorem ok_first_place {A : Ad} (T : Txt w K mg base A) : FnOk P w K mg base CX0 1 A.a_first_place A.d_first_place P_first_place spFirst := by
  refine T.F_first_place.ok sc_first_place (fun vs H Q E h => ?_) (fun cdv Ar outer s H vs Q E hr h => ?_)
  · obtain ⟨l, c, s, x, rfl, _⟩ := h
    rfl
  · obtain ⟨l, c, st, _, rfl, rfl, ll, q⟩ := h
    refine ⟨_, (pss_cons (ps_set (i := 3) sc_first_place.nd rfl (Or.inl rfl) (pe_bm PySem.F.plainAttrs_str PySem.F.slot_str_find PySem.F.type_str_find mt_find3 (pv 0) (pa_cons (pv 1) (pa_cons (pv 2) pa_nil))))
      (pss_one (ps_ret (pe_ifExp (pt_cmpR op_lt (pv 3) pe_int (nomark _)) (pe_callB call_len_str (by rfl) T.z_len PySem.boot_len (pa_cons (pv 0) pa_nil)) (pv 3))))), ?_⟩
    have hl : (sOf l).length ≤ sizeLine := by
      rw [sOf_len]
      exact sz ll
    refine ⟨_, rfl, rfl, _, rfl, _, rfl, _, _, _, rfl, rfl, ?_⟩
    refine ⟨_, rfl, _, _, rfl, rfl, _, rfl, ite2 (fun e => ?_) (fun e => ?_)⟩
    · have e := of_decide_eq_true e
      refine ⟨_, rfl, _, rfl, hl, ?_⟩
      rw [sOf_len]
      rcases find3_fp l c st with ⟨_, h⟩ | h
      · rw [← h]
        exact q
      · rw [h] at e
        omega
    · have e : ¬ (Txt.find3 (sOf l) (sOf [c]) (st : Int) < 0) := fun z => e (decide_eq_true z)
      refine ⟨_, rfl, ?_⟩
      rcases find3_fp l c st with ⟨h, _⟩ | h
      · exact absurd h e
      · rw [h]
        exact q
def spOther : Sp := fun vs H Q _ => ∃ (c : Nat), vs = [.str (sOf [c])] ∧ Q (.str (sOf [oth c])) H
theorem ok_other_cell {A : Ad} (T : Txt w K mg base A) : FnOk P w K mg base CX0 1 A.a_other_cell A.d_other_cell P_other_cell spOther := by
  refine T.F_other_cell.ok sc_other_cell (fun vs H Q E h => ?_) (fun cdv Ar outer s H vs Q E hr h => ?_)
  · obtain ⟨c, rfl, _⟩ := h
    rfl
  · obtain ⟨c, rfl, q⟩ := h
    refine ⟨_, (pss_one (ps_ret (pe_ifExp (pt_cmpR op_eq (pv 0) (pe_glob (v := .str (Str.ofString ".")) (by rfl) T.c_LIGHT ⟨_, rfl⟩) (nomark _)) (pe_glob (v := .str (Str.ofString "#")) (by rfl) T.c_DARK ⟨_, rfl⟩) (pe_glob (v := .str (Str.ofString ".")) (by rfl) T.c_LIGHT ⟨_, rfl⟩)))), ?_⟩
    unfold oth at q
    have key : decide (V.str (sOf [c]) = V.str (Str.ofString ".")) = decide (c = 46) := decide_eq_decide.mpr ⟨fun h => by
      have h2 : sOf [c] = sOf [46] := V.str.inj h
      have := sOf_inj h2
      simp_all, fun h => by rw [h]; rfl⟩
    refine ⟨_, rfl, rfl, _, rfl, ite2 (fun e => ?_) (fun e => ?_)⟩
    · rw [key] at e
      rw [if_pos (of_decide_eq_true e)] at q
      exact q
    · rw [key] at e
      rw [if_neg (fun z => e (decide_eq_true z))] at q
      exact q

/-! ### steps by the row above -/
theorem ne_word' {a b : Str} (h : a ≠ b) : ¬ (V.str a = V.str b) := fun e => h (V.str.inj e)
def spChange : Sp := fun vs H Q _ => ∃ (ab : List Nat) (s c : Nat) (x : Int), vs = [.str (sOf ab), .int x, .str (sOf [c])] ∧ x = (s : Int) - 1 ∧ s ≤ ab.length ∧ ab.length ≤ 1000 ∧ Q (.int (fch ab s c : Int)) H
theorem ok_first_change {A : Ad} (T : Txt w K mg base A) : FnOk P w K mg base CX0 2 A.a_first_change A.d_first_change P_first_change spChange := by
  have G_first_place := ok_first_place (P := P) (w := w) (base := base) T
  have G_other_cell := ok_other_cell (P := P) (w := w) (base := base) T
  refine T.F_first_change.ok sc_first_change (fun vs H Q E h => ?_) (fun cdv Ar outer s H vs Q E hr h => ?_)
  · obtain ⟨ab, s, c, x, rfl, _⟩ := h
    rfl
  · obtain ⟨ab, st, c, _, rfl, rfl, hs, la, q⟩ := h
    refine ⟨_, (pss_cons (ps_set (i := 3) sc_first_change.nd rfl (Or.inl rfl) (pe_op op_add (pv 1) pe_int))
      (Evl.pss_cut (ps_if (PW.pt (pw_and (pt_cmpR op_ge (pv 1) pe_int (nomark _)) (pw_and1 (pt_cmpR op_ne (pe_ix ix_str (pv 0) (pv 1) (fun _ _ => rfl)) (pv 2) (nomark _)))))
      (pss_one (ps_set (i := 3) sc_first_change.nd rfl (Or.inl rfl) (pe_call G_first_place (hr.mono (by decide)) (by rfl) T.g_first_place T.F_first_place.kp T.b_first_place .nil pass0 (pa_cons (pv 0) (pa_cons (pv 2) (pa_cons (pv 3) pa_nil)))))) pss_nil)
      (pss_one (ps_ret (pe_call G_first_place (hr.mono (by decide)) (by rfl) T.g_first_place T.F_first_place.kp T.b_first_place .nil pass0 (pa_cons (pv 0) (pa_cons (pe_call G_other_cell (hr.mono (by decide)) (by rfl) T.g_other_cell T.F_other_cell.kp T.b_other_cell .nil pass0 (pa_cons (pv 2) pa_nil)) (pa_cons (pv 3) pa_nil)))))))), ?_⟩
    have hl : (sOf ab).length ≤ sizeLine := by
      rw [sOf_len]
      exact sz (by omega)
    refine ⟨_, rfl, _, _, rfl, rfl, ?_⟩
    refine ⟨fun σ H' => σ = [some (.str (sOf ab)), some (.int ((st : Int) - 1)), some (.str (sOf [c])), some (.int (fchS ab st c : Int))] ∧ H' = H, ?_, ?_⟩
    · refine ⟨_, rfl, _, _, rfl, rfl, _, rfl, ?_⟩
      by_cases e : 1 ≤ st
      · refine iteD1 (by omega) ?_
        have lt : st - 1 < ab.length := by omega
        have e1 : ab[st - 1]? = some ab[st - 1] := List.getElem?_eq_getElem lt
        refine ⟨_, rfl, _, rfl, _, _, _, rfl, rfl, hl, (by rw [show (st : Int) - 1 = ((st - 1 : Nat) : Int) by omega]; exact sOf_at e1), _, rfl, rfl, _, rfl, ?_⟩
        by_cases e2 : ab[st - 1] = c
        · refine iteN0 (vstr1.mpr e2) ⟨?_, rfl⟩
          have : fchS ab st c = st := by
            unfold fchS
            rw [if_neg (fun z => z.2 (by rw [e1, e2]))]
          rw [this]
          show [_, _, _, some (V.int ((st : Int) - 1 + 1))] = _
          rw [show (st : Int) - 1 + 1 = (st : Int) by omega]
        · refine iteN1 (fun z => e2 (vstr1.mp z)) ?_
          refine ⟨_, rfl, _, rfl, _, rfl, ab, c, st, _, rfl, by omega, by omega, ?_⟩
          have : fchS ab st c = fp ab c st := by
            unfold fchS
            rw [if_pos ⟨e, fun z => e2 (by rw [e1] at z; exact Option.some.inj z)⟩]
          rw [this]
          exact ⟨rfl, rfl⟩
      · refine iteD0 (by omega) (iteF ⟨?_, rfl⟩)
        have : fchS ab st c = st := by
          unfold fchS
          rw [if_neg (fun z => e z.1)]
        rw [this]
        show [_, _, _, some (V.int ((st : Int) - 1 + 1))] = _
        rw [show (st : Int) - 1 + 1 = (st : Int) by omega]
    · rintro σ H1 ⟨rfl, rfl⟩
      exact ⟨_, rfl, _, rfl, c, rfl, _, rfl, ab, oth c, fchS ab st c, _, rfl, rfl, by omega, q⟩
def spStepAt : Sp := fun vs H Q _ => ∃ (ab l : List Nat) (s c : Nat) (x : Int), vs = [.str (sOf ab), .str (sOf l), .int x, .str (sOf [c])] ∧ x = (s : Int) - 1 ∧ s ≤ l.length ∧ ab.length = l.length ∧ l.length ≤ 1000 ∧ ∀ p H', H p = none → Same H H' → H' p = some (.tup (stV (stepAt ab l s c))) → Q (.ref p) H'
theorem ok_step_at {A : Ad} (T : Txt w K mg base A) : FnOk P w K mg base CX0 3 A.a_step_at A.d_step_at P_step_at spStepAt := by
  have G_first_place := ok_first_place (P := P) (w := w) (base := base) T
  have G_first_change := ok_first_change (P := P) (w := w) (base := base) T
  have G_other_cell := ok_other_cell (P := P) (w := w) (base := base) T
  refine T.F_step_at.ok sc_step_at (fun vs H Q E h => ?_) (fun cdv Ar outer s H vs Q E hr h => ?_)
  · obtain ⟨ab, l, s, c, x, rfl, _⟩ := h
    rfl
  · obtain ⟨ab, l, st, c, _, rfl, rfl, hs, el, ll, q⟩ := h
    refine ⟨_, (pss_cons (ps_set (i := 4) sc_step_at.nd rfl (Or.inl rfl) (pe_call G_first_place (hr.mono (by decide)) (by rfl) T.g_first_place T.F_first_place.kp T.b_first_place .nil pass0 (pa_cons (pv 1) (pa_cons (pe_call G_other_cell (hr.mono (by decide)) (by rfl) T.g_other_cell T.F_other_cell.kp T.b_other_cell .nil pass0 (pa_cons (pv 3) pa_nil)) (pa_cons (pe_op op_add (pv 2) pe_int) pa_nil)))))
      (pss_cons (ps_set (i := 5) sc_step_at.nd rfl (Or.inl rfl) (pe_call G_first_change (hr.mono (by decide)) (by rfl) T.g_first_change T.F_first_change.kp T.b_first_change .nil pass0 (pa_cons (pv 0) (pa_cons (pv 2) (pa_cons (pv 3) pa_nil)))))
      (pss_cons (ps_if (pt_cmpR op_lt (pe_call G_first_place (hr.mono (by decide)) (by rfl) T.g_first_place T.F_first_place.kp T.b_first_place .nil pass0 (pa_cons (pv 0) (pa_cons (pv 3) (pa_cons (pe_op op_add (pv 5) pe_int) pa_nil)))) (pv 4) (nomark _))
      (pss_one (ps_ret (pe_tup (pa_cons pe_str pa_nil)))) pss_nil)
      (pss_cons (ps_if (pt_cmpR op_le (pe_callB call_abs (by rfl) T.z_abs (by decide +kernel) (pa_cons (pe_op op_sub (pv 4) (pv 5)) pa_nil)) (pe_glob (v := .int (3)) (by rfl) T.c_MOST_NEAR ⟨_, rfl⟩) (nomark _))
      (pss_one (ps_ret (pe_tup (pa_cons pe_str (pa_cons (pe_op op_sub (pv 4) (pv 5)) pa_nil))))) pss_nil)
      (pss_cons (ps_set (i := 6) sc_step_at.nd rfl (Or.inl rfl) (pe_call G_first_place (hr.mono (by decide)) (by rfl) T.g_first_place T.F_first_place.kp T.b_first_place .nil pass0 (pa_cons (pv 1) (pa_cons (pv 3) (pa_cons (pe_op op_add (pv 4) pe_int) pa_nil)))))
      (pss_one (ps_ret (pe_tup (pa_cons pe_str (pa_cons (pe_op op_sub (pv 4) (pe_callB (call_max2 rfl) (by rfl) T.z_max (by decide +kernel) (pa_cons (pv 2) (pa_cons pe_int pa_nil)))) (pa_cons (pe_op op_sub (pv 6) (pv 4)) pa_nil))))))))))), ?_⟩
    have h1 := stA_le (c := c) hs
    have h2 := stE_le (c := c) hs
    have h3 := fch_le (ab := ab) (c := c) (by omega : st ≤ ab.length)
    refine ⟨_, rfl, _, rfl, c, rfl, _, rfl, _, _, rfl, rfl, l, oth c, st, _, rfl, by omega, by omega, ?_⟩
    refine ⟨_, rfl, _, rfl, _, rfl, ab, st, c, _, rfl, rfl, by omega, by omega, ?_⟩
    refine ⟨_, rfl, _, rfl, _, rfl, _, _, rfl, rfl, ab, c, fch ab st c + 1, _, rfl, rfl, by omega, _, rfl, _, _, rfl, rfl, _, rfl, ?_⟩
    show if decide ((stC ab st c : Int) < (stA l st c : Int)) = true then _ else _
    refine ite2 (fun e => ?_) (fun e => ?_)
    · have e : stC ab st c < stA l st c := by have := of_decide_eq_true e; omega
      have es : stepAt ab l st c = .passed := if_pos e
      rw [es] at q
      exact ⟨(by show 1 ≤ sizeLine; decide), fun p hp => q p _ hp (same_new hp) upd_same⟩
    · have e : ¬ stC ab st c < stA l st c := fun z => e (decide_eq_true (by omega))
      refine ⟨_, rfl, _, rfl, _, _, rfl, rfl, _, rfl, _, _, rfl, rfl, _, rfl, ?_⟩
      show if decide ((if (stA l st c : Int) - (fch ab st c : Int) < 0 then -((stA l st c : Int) - (fch ab st c : Int)) else (stA l st c : Int) - (fch ab st c : Int)) ≤ 3) = true then _ else _
      refine ite2 (fun e2 => ?_) (fun e2 => ?_)
      · have e2 : NearP ab l st c := by
          have := of_decide_eq_true e2
          unfold NearP
          split at this <;> omega
        have es : stepAt ab l st c = .near ((stA l st c : Int) - (fch ab st c : Int)) := by
          unfold stepAt
          rw [if_neg e, if_pos e2]
        rw [es] at q
        exact ⟨_, rfl, _, rfl, _, _, rfl, rfl, (by show 2 ≤ sizeLine; decide), fun p hp => q p _ hp (same_new hp) upd_same⟩
      · have e2 : ¬ NearP ab l st c := fun z => e2 (decide_eq_true (by
          unfold NearP at z
          split <;> omega))
        have es : stepAt ab l st c = .plain (stA l st c - (st - 1)) (stE l st c - stA l st c) := by
          unfold stepAt
          rw [if_neg e, if_neg e2]
        rw [es] at q
        refine ⟨_, rfl, _, rfl, _, rfl, _, _, rfl, rfl, l, c, stA l st c + 1, _, rfl, rfl, by omega, ?_⟩
        refine ⟨_, rfl, _, rfl, _, _, rfl, _, _, rfl, rfl, _, rfl, _, rfl, _, _, rfl, rfl, (by show 3 ≤ sizeLine; decide), fun p hp => q p _ hp (same_new hp) ?_⟩
        rw [upd_same]
        have ea : (stA l st c : Int) - (if (0 : Int) > (st : Int) - 1 then (0 : Int) else (st : Int) - 1) = ((stA l st c - (st - 1) : Nat) : Int) := by
          split <;> omega
        have eb : (stE l st c : Int) - (stA l st c : Int) = ((stE l st c - stA l st c : Nat) : Int) := by omega
        show some (HO.tup [.str (Str.ofString "plain"), .int ((stA l st c : Int) - (if (0 : Int) > (st : Int) - 1 then (0 : Int) else (st : Int) - 1)), .int ((stE l st c : Int) - (stA l st c : Int))]) = _
        rw [ea, eb]
        rfl
def spLed (K : PySem.W.Frag) : Sp := fun vs H Q _ => ∃ (ab : List Nat) (s c : Nat) (x : Int) (a : Addr) (st : Stp), vs = [.str (sOf ab), .int x, .str (sOf [c]), .ref a] ∧ x = (s : Int) - 1 ∧ s ≤ ab.length ∧ ab.length ≤ 1000 ∧ SqT K H a (stV st) ∧ Q (.int (ledT ab s c st)) H
theorem ok_led_to {A : Ad} (T : Txt w K mg base A) : FnOk P w K mg base CX0 3 A.a_led_to A.d_led_to P_led_to (spLed K) := by
  have G_first_change := ok_first_change (P := P) (w := w) (base := base) T
  have G_first_place := ok_first_place (P := P) (w := w) (base := base) T
  refine T.F_led_to.ok sc_led_to (fun vs H Q E h => ?_) (fun cdv Ar outer s H vs Q E hr h => ?_)
  · obtain ⟨ab, s, c, x, a, st, rfl, _⟩ := h
    rfl
  · obtain ⟨ab, sp, c, _, a, st, rfl, rfl, hs, la, ha, q⟩ := h
    refine ⟨_, (pss_cons (ps_if (pt_cmpR op_eq (pe_ix (r := rIxT K) ix_tup (pv 3) pe_int (fun _ _ => rfl)) pe_str (nomark _))
      (pss_one (ps_ret (pe_op op_add (pe_op op_add (pe_callB (call_max2 rfl) (by rfl) T.z_max (by decide +kernel) (pa_cons (pv 1) (pa_cons pe_int pa_nil))) (pe_ix (r := rIxT K) ix_tup (pv 3) pe_int (fun _ _ => rfl))) (pe_ix (r := rIxT K) ix_tup (pv 3) pe_int (fun _ _ => rfl))))) pss_nil)
      (pss_cons (ps_set (i := 4) sc_led_to.nd rfl (Or.inl rfl) (pe_call G_first_change (hr.mono (by decide)) (by rfl) T.g_first_change T.F_first_change.kp T.b_first_change .nil pass0 (pa_cons (pv 0) (pa_cons (pv 1) (pa_cons (pv 2) pa_nil)))))
      (pss_cons (ps_if (pt_cmpR op_eq (pe_ix (r := rIxT K) ix_tup (pv 3) pe_int (fun _ _ => rfl)) pe_str (nomark _))
      (pss_one (ps_ret (pe_op op_add (pv 4) (pe_ix (r := rIxT K) ix_tup (pv 3) pe_int (fun _ _ => rfl))))) pss_nil)
      (pss_one (ps_ret (pe_call G_first_place (hr.mono (by decide)) (by rfl) T.g_first_place T.F_first_place.kp T.b_first_place .nil pass0 (pa_cons (pv 0) (pa_cons (pv 2) (pa_cons (pe_op op_add (pv 4) pe_int) pa_nil))))))))), ?_⟩
    have h3 := fch_le (c := c) hs
    cases st with
    | plain x y =>
      refine ⟨_, rfl, _, _, _, _, rfl, rfl, ha, atI_nat (j := 0) rfl, rfl, _, rfl, iteD1 rfl ?_⟩
      refine ⟨_, rfl, _, _, rfl, _, rfl, _, _, _, _, rfl, rfl, ha, atI_nat (j := 1) rfl, _, _, rfl, rfl, _, rfl, _, _, _, _, rfl, rfl, ha, atI_nat (j := 2) rfl, _, _, rfl, rfl, ?_⟩
      have ea : (if (0 : Int) > (sp : Int) - 1 then (0 : Int) else (sp : Int) - 1) = ((sp - 1 : Nat) : Int) := by split <;> omega
      show Q (.int ((if (0 : Int) > (sp : Int) - 1 then (0 : Int) else (sp : Int) - 1) + (x : Int) + (y : Int))) H
      rw [ea]
      exact q
    | near d =>
      refine ⟨_, rfl, _, _, _, _, rfl, rfl, ha, atI_nat (j := 0) rfl, rfl, _, rfl, iteD0 (ne_word' (by decide)) ?_⟩
      refine ⟨_, rfl, _, rfl, _, rfl, ab, sp, c, _, rfl, rfl, hs, la, ?_⟩
      refine ⟨_, rfl, _, _, _, _, rfl, rfl, ha, atI_nat (j := 0) rfl, rfl, _, rfl, iteD1 rfl ?_⟩
      exact ⟨_, rfl, _, rfl, _, _, _, _, rfl, rfl, ha, atI_nat (j := 1) rfl, _, _, rfl, rfl, q⟩
    | passed =>
      refine ⟨_, rfl, _, _, _, _, rfl, rfl, ha, atI_nat (j := 0) rfl, rfl, _, rfl, iteD0 (ne_word' (by decide)) ?_⟩
      refine ⟨_, rfl, _, rfl, _, rfl, ab, sp, c, _, rfl, rfl, hs, la, ?_⟩
      refine ⟨_, rfl, _, _, _, _, rfl, rfl, ha, atI_nat (j := 0) rfl, rfl, _, rfl, iteD0 (ne_word' (by decide)) ?_⟩
      exact ⟨_, rfl, _, rfl, _, rfl, _, _, rfl, rfl, ab, c, fch ab sp c + 1, _, rfl, rfl, by omega, q⟩
def spColB (K : PySem.W.Frag) : Sp := fun vs H Q _ => ∃ (c : Nat) (a : Addr) (st : Stp), vs = [.str (sOf [c]), .ref a] ∧ SqT K H a (stV st) ∧ Q (.str (sOf [colB c st])) H
theorem ok_colour_behind {A : Ad} (T : Txt w K mg base A) : FnOk P w K mg base CX0 2 A.a_colour_behind A.d_colour_behind P_colour_behind (spColB K) := by
  have G_other_cell := ok_other_cell (P := P) (w := w) (base := base) T
  refine T.F_colour_behind.ok sc_colour_behind (fun vs H Q E h => ?_) (fun cdv Ar outer s H vs Q E hr h => ?_)
  · obtain ⟨c, a, st, rfl, _⟩ := h
    rfl
  · obtain ⟨c, a, st, rfl, ha, q⟩ := h
    refine ⟨_, (pss_one (ps_ret (pe_ifExp (pt_cmpR op_eq (pe_ix (r := rIxT K) ix_tup (pv 1) pe_int (fun _ _ => rfl)) pe_str (nomark _)) (pe_call G_other_cell (hr.mono (by decide)) (by rfl) T.g_other_cell T.F_other_cell.kp T.b_other_cell .nil pass0 (pa_cons (pv 0) pa_nil)) (pv 0)))), ?_⟩
    cases st with
    | plain x y =>
      exact ⟨_, rfl, _, _, _, _, rfl, rfl, ha, atI_nat (j := 0) rfl, rfl, _, rfl, iteD0 (ne_word' (by decide)) ⟨_, rfl, q⟩⟩
    | near d =>
      exact ⟨_, rfl, _, _, _, _, rfl, rfl, ha, atI_nat (j := 0) rfl, rfl, _, rfl, iteD1 rfl ⟨_, rfl, c, rfl, q⟩⟩
    | passed =>
      exact ⟨_, rfl, _, _, _, _, rfl, rfl, ha, atI_nat (j := 0) rfl, rfl, _, rfl, iteD0 (ne_word' (by decide)) ⟨_, rfl, q⟩⟩

def StW (ab l : List Nat) (p : Addr) (H : Hp) (m : Nat) (σ : L2.St) (H' : Hp) : Prop := ∃ (s c : Nat) (ws : List V) (done : List (Stp × Nat)) (y5 : Option V), σ = [some (.str (sOf ab)), some (.str (sOf l)), some (.ref p), some (.int ((s : Int) - 1)), some (.str (sOf [c])), y5] ∧ m = l.length + 1 - s ∧ s ≤ l.length + 1 ∧ Cell c ∧ Same H H' ∧ H' p = some (.lst ws) ∧ TupsAt stV H' ws (done.map (·.1)) ∧ done ++ stepsAt ab l s c = stepsL ab l
def spSteps : Sp := fun vs H Q _ => ∃ (ab l : List Nat), vs = [.str (sOf ab), .str (sOf l)] ∧ ab.length = l.length ∧ l.length ≤ 1000 ∧ ∀ p ws H', H p = none → Same H H' → H' p = some (.lst ws) → TupsAt stV H' ws ((stepsL ab l).map (·.1)) → Q (.ref p) H'
theorem ok_above_steps {A : Ad} (T : Txt w K mg base A) : FnOk P w K mg base CX0 4 A.a_above_steps A.d_above_steps P_above_steps spSteps := by
  have G_step_at := ok_step_at (P := P) (w := w) (base := base) T
  have G_led_to := ok_led_to (P := P) (w := w) (base := base) T
  have G_colour_behind := ok_colour_behind (P := P) (w := w) (base := base) T
  refine T.F_above_steps.ok sc_above_steps (fun vs H Q E h => ?_) (fun cdv Ar outer s H vs Q E hr h => ?_)
  · obtain ⟨ab, l, rfl, _⟩ := h
    rfl
  · obtain ⟨ab, l, rfl, el, ll, q⟩ := h
    refine ⟨_, (pss_cons (ps_set (i := 2) sc_above_steps.nd rfl (Or.inl rfl) (pe_lst pa_nil))
      (pss_cons (ps_par (i := 3) (j := 4) (by rfl) sc_above_steps.nd rfl rfl (by decide) rfl rfl (pa_cons (pe_glob (v := .int (-1)) (by rfl) T.c_AHEAD ⟨_, rfl⟩) (pa_cons (pe_glob (v := .str (Str.ofString ".")) (by rfl) T.c_LIGHT ⟨_, rfl⟩) pa_nil)) (by rfl))
      (pss_cons (ps_while PassesOwn.never (pt_cmpR op_lt (pv 3) (pe_callB call_len_str (by rfl) T.z_len PySem.boot_len (pa_cons (pv 1) pa_nil)) (nomark _))
      (pss_cons (ps_set (i := 5) sc_above_steps.nd rfl (Or.inl rfl) (pe_call G_step_at (hr.mono (by decide)) (by rfl) T.g_step_at T.F_step_at.kp T.b_step_at .nil pass0 (pa_cons (pv 0) (pa_cons (pv 1) (pa_cons (pv 3) (pa_cons (pv 4) pa_nil))))))
      (pss_cons (ps_expr (pe_bm PySem.F.plainAttrs_list PySem.F.slot_list_append PySem.F.type_list_append mt_append (pv 2) (pa_cons (pv 5) pa_nil)))
      (pss_cons (ps_set (i := 3) sc_above_steps.nd rfl (Or.inl rfl) (pe_call G_led_to (hr.mono (by decide)) (by rfl) T.g_led_to T.F_led_to.kp T.b_led_to .nil pass0 (pa_cons (pv 0) (pa_cons (pv 3) (pa_cons (pv 4) (pa_cons (pv 5) pa_nil))))))
      (pss_one (ps_set (i := 4) sc_above_steps.nd rfl (Or.inl rfl) (pe_call G_colour_behind (hr.mono (by decide)) (by rfl) T.g_colour_behind T.F_colour_behind.kp T.b_colour_behind .nil pass0 (pa_cons (pv 4) (pa_cons (pv 5) pa_nil)))))))))
      (pss_one (ps_ret (pv 2)))))), ?_⟩
    have hl : (sOf l).length ≤ sizeLine := by
      rw [sOf_len]
      exact sz (by omega)
    refine ⟨(by show 0 ≤ sizeLine; decide), fun p hp => ?_⟩
    refine ⟨_, _, rfl, StW ab l p H, ⟨_, 0, 46, [], [], none, rfl, rfl, by omega, .inl rfl, same_new hp, upd_same, trivial, rfl⟩, ?_⟩
    rintro m σ H1 ⟨s, c, ws, done, y5, rfl, rfl, hs1, hc, sm, hp1, ht, hd⟩
    refine ⟨_, rfl, _, rfl, _, rfl, hl, _, _, rfl, rfl, _, rfl, ?_⟩
    refine ite2 (fun e => ?_) (fun e => ?_)
    · have hs : s ≤ l.length := by
        have := of_decide_eq_true e
        rw [sOf_len] at this
        omega
      have lw := ledN_le (c := c) hs el
      rw [stepsAt_go el hs] at hd
      have dl : done.length ≤ l.length := by
        have := congrArg List.length hd
        have h2 := stepsF_len ab l (l.length + 1) 0 46
        rw [List.length_append, List.length_cons] at this
        unfold stepsL at this
        omega
      refine ⟨fun σ' H' => ∃ m', m' < l.length + 1 - s ∧ StW ab l p H m' σ' H', fun σ' H' h => h, ?_⟩
      refine ⟨_, rfl, _, rfl, _, rfl, _, rfl, ab, l, s, c, _, rfl, rfl, hs, el, ll, fun t H2 nt s2 h2 => ?_⟩
      have hp2 := s2 _ _ hp1
      refine ⟨_, rfl, .inl ⟨rfl, _, SqL.of hp2⟩, _, rfl, p, _, _, rfl, rfl, hp2, ?_, ?_⟩
      · rw [ht.len, List.length_map]
        exact szl (by omega)
      have ntp : t ≠ p := (ne_of_none hp1 nt).symm
      have ht3 : upd H2 p (.lst (ws ++ [.ref t])) t = some (.tup (stV (stepAt ab l s c))) := by
        rw [upd_ne ntp]
        exact h2
      refine ⟨_, rfl, _, rfl, _, rfl, _, rfl, ab, s, c, _, t, _, rfl, rfl, by omega, by omega, SqT.of ht3, ?_⟩
      rw [ledT_step hs]
      refine ⟨_, rfl, _, rfl, c, t, _, rfl, SqT.of ht3, ?_⟩
      refine ⟨l.length + 1 - (ledN ab l s c + 1), by omega, ledN ab l s c + 1, colB c (stepAt ab l s c), ws ++ [.ref t], done ++ [(stepAt ab l s c, c)], some (.ref t), ?_, rfl, by omega, colB_cell hc _, Same.mut (sm.trans s2) hp, upd_same, ?_, ?_⟩
      · show [_, _, _, some (V.int (ledN ab l s c : Int)), _, _] = _
        rw [show (((ledN ab l s c + 1 : Nat) : Int) - 1) = (ledN ab l s c : Int) by omega]
      · rw [List.map_append]
        refine TupsAt.app (ws := [.ref t]) (ys := [stepAt ab l s c]) (And.intro ⟨t, rfl, ht3⟩ trivial) (ht.mono fun a xs z => ?_)
        have na : a ≠ p := fun y => by
          rw [y, hp1] at z
          cases z
        rw [upd_ne na]
        exact s2 _ _ z
      · rw [List.append_assoc]
        exact hd
    · have hs : l.length < s := by
        have : ¬ ((s : Int) - 1 < ((sOf l).length : Int)) := fun z => e (decide_eq_true z)
        rw [sOf_len] at this
        omega
      rw [stepsAt_end hs, List.append_nil] at hd
      rw [hd] at ht
      exact ⟨_, rfl, q p ws H1 hp sm hp1 ht⟩

def Br (x : V) : Prop := ∃ n : Nat, x = .int (n : Int) ∧ 8 ≤ n ∧ n ≤ 64
theorem br_of {i : Int} (h0 : 8 ≤ i) (h1 : i ≤ 64) : Br (.int i) := by
  obtain ⟨n, rfl⟩ := Int.eq_ofNat_of_zero_le (show 0 ≤ i by omega)
  exact ⟨n, rfl, by omega, by omega⟩
theorem pick {xs : List V} (h : ∀ x ∈ xs, Br x) {j : Int} (j0 : 0 ≤ j) (j1 : j < (xs.length : Int)) : ∃ v, atI xs j = some v ∧ Br v := by
  obtain ⟨k, rfl⟩ := Int.eq_ofNat_of_zero_le j0
  have hk : k < xs.length := by omega
  exact ⟨xs[k], atI_nat (List.getElem?_eq_getElem hk), h _ (List.getElem_mem hk)⟩
theorem pick4 {d1 d2 : Int} (a0 : 0 ≤ d1) (a1 : d1 < 57) (c0 : 0 ≤ d2) (c1 : d2 < 57) {j : Int} (j0 : 0 ≤ j) (j1 : j < 4) : ∃ v, atI [V.int 8, .int 64, .int (8 + d1), .int (8 + d2)] j = some v ∧ Br v := pick (by
  intro x hx
  rcases List.mem_cons.mp hx with rfl | hx
  · exact br_of (by decide) (by decide)
  rcases List.mem_cons.mp hx with rfl | hx
  · exact br_of (by decide) (by decide)
  rcases List.mem_cons.mp hx with rfl | hx
  · exact br_of (by omega) (by omega)
  rcases List.mem_cons.mp hx with rfl | hx
  · exact br_of (by omega) (by omega)
  · cases hx) j0 j1

/-! ### two rows are drawn -/
def spPair : Sp := fun vs H Q _ => ∃ (b : Addr), vs = [.ref b] ∧ BagAt H b ∧ ∀ p ab l H', H p = none → Bx b H H' → ab.length = l.length → 8 ≤ l.length → l.length ≤ 64 → Row ab → Row l → H' p = some (.lst [.str (sOf ab), .str (sOf l)]) → Q (.ref p) H'
theorem ok_pair {A : Ad} (T : Txt w K mg base A) : FnOk P w K mg base CX0 3 A.a_pair A.d_pair P_pair spPair := by
  have G_row := ok_row (P := P) (w := w) (base := base) T
  have G_draw := ok_draw (P := P) (w := w) (base := base) T
  refine T.F_pair.ok sc_pair (fun vs H Q E h => ?_) (fun cdv Ar outer s H vs Q E hr h => ?_)
  · obtain ⟨b, rfl, _⟩ := h
    rfl
  · obtain ⟨b, rfl, hb, q⟩ := h
    refine ⟨_, (pss_cons (ps_set (i := 1) sc_pair.nd rfl (Or.inl rfl) (pe_ix (r := rIxL K) ix_list (pe_lst (pa_cons pe_int (pa_cons pe_int (pa_cons (pe_op op_add pe_int (pe_call G_draw (hr.mono (by decide)) (by rfl) T.g_draw T.F_draw.kp T.b_draw .nil pass0 (pa_cons (pv 0) (pa_cons pe_int pa_nil)))) (pa_cons (pe_op op_add pe_int (pe_call G_draw (hr.mono (by decide)) (by rfl) T.g_draw T.F_draw.kp T.b_draw .nil pass0 (pa_cons (pv 0) (pa_cons pe_int pa_nil)))) pa_nil))))) (pe_call G_draw (hr.mono (by decide)) (by rfl) T.g_draw T.F_draw.kp T.b_draw .nil pass0 (pa_cons (pv 0) (pa_cons pe_int pa_nil))) (fun _ _ => rfl)))
      (pss_cons (ps_set (i := 2) sc_pair.nd rfl (Or.inl rfl) (pe_call G_row (hr.mono (by decide)) (by rfl) T.g_row T.F_row.kp T.b_row .nil pass0 (pa_cons (pv 0) (pa_cons (pv 1) (pa_cons (pe_op op_mul_str pe_str (pv 1)) pa_nil)))))
      (Evl.pss_cut (ps_if (pt_cmpR op_eq (pe_call G_draw (hr.mono (by decide)) (by rfl) T.g_draw T.F_draw.kp T.b_draw .nil pass0 (pa_cons (pv 0) (pa_cons pe_int pa_nil))) pe_int (nomark _))
      (pss_one (ps_ret (pe_lst (pa_cons (pv 2) (pa_cons (pe_call G_row (hr.mono (by decide)) (by rfl) T.g_row T.F_row.kp T.b_row .nil pass0 (pa_cons (pv 0) (pa_cons (pv 1) (pa_cons (pv 2) pa_nil)))) pa_nil))))) pss_nil)
      (pss_cons (ps_set (i := 3) sc_pair.nd rfl (Or.inl rfl) pe_str)
      (pss_cons (ps_set (i := 4) sc_pair.nd rfl (Or.inl rfl) (pe_op op_sub (pe_call G_draw (hr.mono (by decide)) (by rfl) T.g_draw T.F_draw.kp T.b_draw .nil pass0 (pa_cons (pv 0) (pa_cons pe_int pa_nil))) pe_int))
      (pss_cons (ps_for PassesOwn.never rfl (pi_range1 (by rfl) T.z_range (pa_cons (pv 1) pa_nil)) (pg_name (i := 5) sc_pair.nd rfl (Or.inl rfl))
      (Evl.pss_cut (ps_if (pt_cmpR op_eq (pe_call G_draw (hr.mono (by decide)) (by rfl) T.g_draw T.F_draw.kp T.b_draw .nil pass0 (pa_cons (pv 0) (pa_cons pe_int pa_nil))) pe_int (nomark _))
      (pss_one (ps_set (i := 4) sc_pair.nd rfl (Or.inl rfl) (pe_op op_sub (pe_call G_draw (hr.mono (by decide)) (by rfl) T.g_draw T.F_draw.kp T.b_draw .nil pass0 (pa_cons (pv 0) (pa_cons pe_int pa_nil))) pe_int))) pss_nil)
      (pss_one (ps_set (i := 3) sc_pair.nd rfl (Or.inl rfl) (pe_op op_add_str (pv 3) (pe_ix ix_str (pv 2) (pe_callB (call_max2 rfl) (by rfl) T.z_max (by decide +kernel) (pa_cons pe_int (pa_cons (pe_callB (call_min2 rfl) (by rfl) T.z_min (by decide +kernel) (pa_cons (pe_op op_sub (pv 1) pe_int) (pa_cons (pe_op op_add (pv 5) (pv 4)) pa_nil))) pa_nil))) (fun _ _ => rfl)))))))
      (pss_one (ps_ret (pe_lst (pa_cons (pv 2) (pa_cons (pv 3) pa_nil))))))))))), ?_⟩
    refine ⟨_, rfl, b, 57, rfl, hb, by decide, by decide, fun d1 H2 a0 a1 bx1 => ⟨_, _, rfl, rfl, _, rfl, b, 57, rfl, bx1.1, by decide, by decide, fun d2 H3 c0 c1 bx2 => ⟨_, _, rfl, rfl, (by show 4 ≤ sizeLine; decide), fun p hp => ⟨_, rfl, b, 4, rfl, (bx2.same (same_new hp)).1, by decide, by decide, fun j H4 j0 j1 bx3 => ?_⟩⟩⟩⟩
    have np : p ≠ b := BagAt.ne bx2.1 hp
    obtain ⟨v, hv, n, rfl, n0, n1⟩ := pick4 a0 a1 c0 c1 j0 j1
    refine ⟨_, _, _, _, rfl, rfl, SqL.of (bx3.2 _ _ np upd_same), hv, ?_⟩
    have bx4 : Bx b H H4 := ((bx1.trans bx2).same (same_new hp)).trans bx3
    refine ⟨_, rfl, _, rfl, _, rfl, 46, _, rfl, rfl, ⟨by omega, by omega⟩, b, n, List.replicate n 46, _, rfl, rfl, bx4.1, by omega, by omega, List.length_replicate, Row.rep (.inl rfl), fun ab H5 la ra bx5 => ?_⟩
    have bx6 := bx4.trans bx5
    have fin : ∀ (l : List Nat) (H7 : Hp), l.length = n → Row l → Bx b H H7 → ∀ p, H7 p = none → Q (.ref p) (upd H7 p (.lst [.str (sOf ab), .str (sOf l)])) := fun l H7 ll rl bx p hp => q p ab l _ (bx.free hp) (bx.same (same_new hp)) (by rw [la, ll]) (by omega) (by omega) ra rl upd_same
    refine ⟨fun σ H' => σ = [some (.ref b), some (.int (n : Int)), some (.str (sOf ab)), none, none, none] ∧ Bx b H H', ?_, ?_⟩
    · refine ⟨_, rfl, b, 2, rfl, bx6.1, by decide, by decide, fun z H6 z0 z1 bx7 => ?_⟩
      have bx8 := bx6.trans bx7
      refine ⟨rfl, _, rfl, ite2 (fun e => ?_) (fun e => ?_)⟩
      · exact ⟨_, rfl, _, rfl, _, rfl, _, rfl, b, n, ab, _, rfl, rfl, bx8.1, by omega, by omega, la, ra, fun l H7 ll rl bx9 => ⟨(by show 2 ≤ sizeLine; decide), fin l H7 ll rl (bx8.trans bx9)⟩⟩
      · exact ⟨rfl, bx8⟩
    · rintro σ H6 ⟨rfl, bx8⟩
      refine ⟨_, rfl, b, 9, rfl, bx8.1, by decide, by decide, fun sl H7 s0 s1 bx9 => ⟨_, _, rfl, rfl, ?_⟩⟩
      refine ⟨_, rfl, _, rfl, by omega, by omega, for_range (lo := 0) (n := n) (fun i σ H' => ∃ (l : List Nat) (t : Int) (y5 : Option V), σ = [some (.ref b), some (.int (n : Int)), some (.str (sOf ab)), some (.str (sOf l)), some (.int t), y5] ∧ l.length = i ∧ Row l ∧ Bx b H H') ⟨[], _, none, rfl, rfl, Row.nil, bx8.trans bx9⟩ ?_ ?_⟩
      · rintro i σ H8 hi ⟨l, t, y5, rfl, ll, rl, bx10⟩
        refine ⟨fun σ H' => ∃ t : Int, σ = [some (.ref b), some (.int (n : Int)), some (.str (sOf ab)), some (.str (sOf l)), some (.int t), some (.int (0 + (i : Int)))] ∧ Bx b H H', ?_, ?_⟩
        · refine ⟨_, rfl, b, 6, rfl, bx10.1, by decide, by decide, fun z2 H9 _ _ bx11 => ?_⟩
          refine ⟨rfl, _, rfl, ite2 (fun e2 => ?_) (fun e2 => ?_)⟩
          · refine ⟨_, rfl, b, 9, rfl, bx11.1, by decide, by decide, fun z3 H10 _ _ bx12 => ⟨_, _, rfl, rfl, ?_⟩⟩
            exact ⟨_, rfl, (bx10.trans bx11).trans bx12⟩
          · exact ⟨_, rfl, bx10.trans bx11⟩
        · rintro σ H10 ⟨t, rfl, bx12⟩
          obtain ⟨k, ek, hk⟩ : ∃ k : Nat, (if (if (0 + (i : Int)) + t < (n : Int) - 1 then (0 + (i : Int)) + t else (n : Int) - 1) > 0 then (if (0 + (i : Int)) + t < (n : Int) - 1 then (0 + (i : Int)) + t else (n : Int) - 1) else 0) = (k : Int) ∧ k < n := by
            refine ⟨(if (if (0 + (i : Int)) + t < (n : Int) - 1 then (0 + (i : Int)) + t else (n : Int) - 1) > 0 then (if (0 + (i : Int)) + t < (n : Int) - 1 then (0 + (i : Int)) + t else (n : Int) - 1) else 0).toNat, ?_, ?_⟩
            · split <;> split <;> omega
            · split <;> split <;> omega
          have hk' : k < ab.length := by omega
          refine ⟨_, rfl, _, rfl, _, rfl, _, _, rfl, rfl, _, rfl, _, rfl, _, _, rfl, rfl, _, _, rfl, _, _, rfl, _, _, _, rfl, rfl, (by rw [sOf_len]; exact sz (by omega)), (by rw [ek]; exact sOf_at (List.getElem?_eq_getElem hk')), _, _, rfl, rfl, ?_, ?_⟩
          · rw [sOf_len]
            exact sz (by show l.length + 1 ≤ _; omega)
          · refine ⟨l ++ [ab[k]], t, some (.int (0 + (i : Int))), ?_, by rw [List.length_append, ll]; rfl, rl.app (ra _ (List.getElem_mem hk')), bx12⟩
            rw [← sOf_app]
            rfl
      · rintro σ H8 ⟨l, t, y5, rfl, ll, rl, bx10⟩
        exact ⟨_, rfl, _, rfl, (by show 2 ≤ sizeLine; decide), fin l H8 ll rl bx10⟩

def spFar : Sp := fun vs H Q _ => ∃ (ab : List Nat) (s c : Nat) (x : Int), vs = [.str (sOf ab), .int x, .str (sOf [c])] ∧ x = (s : Int) - 1 ∧ s ≤ ab.length ∧ ab.length ≤ 1000 ∧ Row ab ∧ Cell c ∧ (s = 0 → c = 46) ∧ Q (.int (fch ab s c : Int)) H
theorem ok_far {A : Ad} (T : Txt w K mg base A) : FnOk P w K mg base CX0 1 A.a_far A.d_far P_far spFar := by
  refine T.F_far.ok sc_far (fun vs H Q E h => ?_) (fun cdv Ar outer s H vs Q E hr h => ?_)
  · obtain ⟨ab, s, c, x, rfl, _⟩ := h
    rfl
  · obtain ⟨ab, st, c, _, rfl, rfl, hs, la, ra, hc, h0, q⟩ := h
    refine ⟨_, (pss_cons (ps_for PassesOwn.never rfl (pi_range2 (by rfl) T.z_range (pa_cons (pe_op op_add (pv 1) pe_int) (pa_cons (pe_callB call_len_str (by rfl) T.z_len PySem.boot_len (pa_cons (pv 0) pa_nil)) pa_nil))) (pg_name (i := 3) sc_far.nd rfl (Or.inl rfl))
      (pss_one (ps_if (PW.pt (pw_and (pt_cmpR op_ne (pe_ix ix_str (pv 0) (pv 3) (fun _ _ => rfl)) (pv 2) (nomark _)) (pw_and1 (pt_cmpR op_eq (pe_ix ix_str (pe_op op_add_str pe_str (pv 0)) (pv 3) (fun _ _ => rfl)) (pv 2) (nomark _)))))
      (pss_one (ps_ret (pv 3))) pss_nil)))
      (pss_one (ps_ret (pe_callB call_len_str (by rfl) T.z_len PySem.boot_len (pa_cons (pv 0) pa_nil))))), ?_⟩
    have hl : (sOf ab).length ≤ sizeLine := by
      rw [sOf_len]
      exact sz (by omega)
    have hl2 : (Str.ofString ".").length + (sOf ab).length ≤ sizeLine := by
      rw [sOf_len]
      exact sz (by show 1 + ab.length ≤ _; omega)
    refine ⟨_, rfl, _, _, rfl, rfl, _, rfl, _, rfl, hl, _, _, rfl, ?_⟩
    rw [sOf_len, show (st : Int) - 1 + 1 = (st : Int) by omega, show ((ab.length : Int) - (st : Int)).toNat = ab.length - st by omega]
    refine ⟨⟨by omega, by omega, by omega, by omega⟩, for_range (lo := (st : Int)) (n := ab.length - st) (fun i σ H' => ∃ y3 : Option V, σ = [some (.str (sOf ab)), some (.int ((st : Int) - 1)), some (.str (sOf [c])), y3] ∧ H' = H ∧ ∀ v, st ≤ v → v < st + i → ¬ (ab[v]? = some (oth c) ∧ (46 :: ab)[v]? = some c)) ⟨none, rfl, rfl, fun v a b => absurd b (by omega)⟩ ?_ ?_⟩
    · rintro i σ H1 hi ⟨y3, rfl, rfl, hn⟩
      have lt : st + i < ab.length := by omega
      have ei : (st : Int) + (i : Int) = ((st + i : Nat) : Int) := by omega
      have e1 : ab[st + i]? = some ab[st + i] := List.getElem?_eq_getElem lt
      have lt2 : st + i < (46 :: ab).length := by rw [List.length_cons]; omega
      have e2 : (46 :: ab)[st + i]? = some (46 :: ab)[st + i] := List.getElem?_eq_getElem lt2
      have rx := ra _ (List.getElem_mem lt)
      have nxt : ¬ (ab[st + i]? = some (oth c) ∧ (46 :: ab)[st + i]? = some c) → ∀ v, st ≤ v → v < st + (i + 1) → ¬ (ab[v]? = some (oth c) ∧ (46 :: ab)[v]? = some c) := fun h v a b => by
        by_cases z : v = st + i
        · rw [z]
          exact h
        · exact hn v a (by omega)
      refine ⟨_, rfl, _, rfl, _, _, _, rfl, rfl, hl, (by rw [ei]; exact sOf_at e1), _, rfl, rfl, _, rfl, ?_⟩
      by_cases z1 : ab[st + i] = c
      · refine iteN0 (vstr1.mpr z1) (iteF ?_)
        exact ⟨_, rfl, rfl, nxt fun y => by rw [e1, z1] at y; exact oth_ne hc (Option.some.inj y.1).symm⟩
      · refine iteN1 (fun y => z1 (vstr1.mp y)) ?_
        have zo : ab[st + i] = oth c := by
          rcases hc with rfl | rfl <;> rcases rx with y | y
          · exact absurd y z1
          · exact y
          · exact y
          · exact absurd y z1
        refine ⟨_, rfl, _, _, rfl, rfl, hl2, _, rfl, _, _, _, rfl, rfl, ?_, (by rw [ei, show Str.ofString "." ++ sOf ab = sOf (46 :: ab) from sOf_app [46] ab]; exact sOf_at e2), _, rfl, rfl, _, rfl, ?_⟩
        · rw [show Str.ofString "." ++ sOf ab = sOf (46 :: ab) from sOf_app [46] ab, sOf_len, List.length_cons]
          exact sz (by omega)
        by_cases z2 : (46 :: ab)[st + i] = c
        · refine iteD1 (vstr1.mpr z2) ?_
          have := fch_law (ab := ab) (s := st) (c := c) (k := st + i) ra hc hs h0 (by omega) (by omega) hn (fun _ => ⟨by rw [e1, zo], by rw [e2, z2]⟩)
          rw [this] at q
          refine ⟨_, rfl, ?_⟩
          rw [ei]
          exact q
        · refine iteD0 (fun y => z2 (vstr1.mp y)) ?_
          exact ⟨_, rfl, rfl, nxt fun y => by rw [e2] at y; exact z2 (Option.some.inj y.2)⟩
    · rintro σ H1 ⟨y3, rfl, rfl, hn⟩
      have := fch_law (ab := ab) (s := st) (c := c) (k := ab.length) ra hc hs h0 hs (Nat.le_refl _) (fun v a b => hn v a (by omega)) (fun z => absurd z (by omega))
      rw [this] at q
      refine ⟨_, rfl, _, rfl, hl, ?_⟩
      rw [sOf_len]
      exact q
def spBack : Sp := fun vs H Q _ => ∃ (l : List Nat) (s c : Nat) (x : Int), vs = [.str (sOf l), .int x, .str (sOf [c])] ∧ x = (s : Int) - 1 ∧ l.length ≤ 1000 ∧ s ≤ 2000 ∧ Q (.int (fp l c s : Int)) H
theorem ok_back {A : Ad} (T : Txt w K mg base A) : FnOk P w K mg base CX0 1 A.a_back A.d_back P_back spBack := by
  refine T.F_back.ok sc_back (fun vs H Q E h => ?_) (fun cdv Ar outer s H vs Q E hr h => ?_)
  · obtain ⟨l, s, c, x, rfl, _⟩ := h
    rfl
  · obtain ⟨l, st, c, _, rfl, rfl, ll, s2, q⟩ := h
    refine ⟨_, (pss_cons (ps_for PassesOwn.never rfl (pi_range2 (by rfl) T.z_range (pa_cons (pe_op op_add (pv 1) pe_int) (pa_cons (pe_callB call_len_str (by rfl) T.z_len PySem.boot_len (pa_cons (pv 0) pa_nil)) pa_nil))) (pg_name (i := 3) sc_back.nd rfl (Or.inl rfl))
      (pss_one (ps_if (pt_cmpR op_eq (pe_ix ix_str (pv 0) (pv 3) (fun _ _ => rfl)) (pv 2) (nomark _))
      (pss_one (ps_ret (pv 3))) pss_nil)))
      (pss_one (ps_ret (pe_callB call_len_str (by rfl) T.z_len PySem.boot_len (pa_cons (pv 0) pa_nil))))), ?_⟩
    have hl : (sOf l).length ≤ sizeLine := by
      rw [sOf_len]
      exact sz (by omega)
    refine ⟨_, rfl, _, _, rfl, rfl, _, rfl, _, rfl, hl, _, _, rfl, ?_⟩
    rw [sOf_len, show (st : Int) - 1 + 1 = (st : Int) by omega, show ((l.length : Int) - (st : Int)).toNat = l.length - st by omega]
    refine ⟨⟨by omega, by omega, by omega, by omega⟩, for_range (lo := (st : Int)) (n := l.length - st) (fun i σ H' => ∃ y3 : Option V, σ = [some (.str (sOf l)), some (.int ((st : Int) - 1)), some (.str (sOf [c])), y3] ∧ H' = H ∧ ∀ v, st ≤ v → v < st + i → l[v]? ≠ some c) ⟨none, rfl, rfl, fun v a b => absurd b (by omega)⟩ ?_ ?_⟩
    · rintro i σ H1 hi ⟨y3, rfl, rfl, hn⟩
      have lt : st + i < l.length := by omega
      have ei : (st : Int) + (i : Int) = ((st + i : Nat) : Int) := by omega
      have e1 : l[st + i]? = some l[st + i] := List.getElem?_eq_getElem lt
      refine ⟨_, rfl, _, rfl, _, _, _, rfl, rfl, hl, (by rw [ei]; exact sOf_at e1), _, rfl, rfl, _, rfl, ?_⟩
      by_cases z1 : l[st + i] = c
      · refine iteD1 (vstr1.mpr z1) ?_
        have := fp_uniq (l := l) (c := c) (s := st) (k := st + i) (by omega) (by omega) (by omega) hn (fun _ => by rw [e1, z1])
        rw [this] at q
        refine ⟨_, rfl, ?_⟩
        rw [ei]
        exact q
      · refine iteD0 (fun y => z1 (vstr1.mp y)) ?_
        refine ⟨_, rfl, rfl, fun v a b => ?_⟩
        by_cases z : v = st + i
        · rw [z, e1]
          exact fun y => z1 (Option.some.inj y)
        · exact hn v a (by omega)
    · rintro σ H1 ⟨y3, rfl, rfl, hn⟩
      have : fp l c st = l.length := by
        by_cases h : st ≤ l.length
        · exact fp_uniq h h (Nat.le_refl _) (fun v a b => hn v a (by omega)) (fun z => absurd z (by omega))
        · unfold fp
          rw [if_neg h]
      rw [this] at q
      refine ⟨_, rfl, _, rfl, hl, ?_⟩
      rw [sOf_len]
      exact q

def spOwn : Sp := fun vs H Q _ => ∃ (l : List Nat) (s c : Nat) (x : Int), vs = [.str (sOf l), .int x, .str (sOf [c])] ∧ x = (s : Int) - 1 ∧ l.length ≤ 1000 ∧ s ≤ l.length ∧ Row l ∧ Cell c ∧ Q (.int (fp l (oth c) s : Int)) H
theorem ok_own {A : Ad} (T : Txt w K mg base A) : FnOk P w K mg base CX0 1 A.a_own A.d_own P_own spOwn := by
  refine T.F_own.ok sc_own (fun vs H Q E h => ?_) (fun cdv Ar outer s H vs Q E hr h => ?_)
  · obtain ⟨l, s, c, x, rfl, _⟩ := h
    rfl
  · obtain ⟨l, st, c, _, rfl, rfl, ll, s2, rl, hc, q⟩ := h
    refine ⟨_, (pss_cons (ps_for PassesOwn.never rfl (pi_range2 (by rfl) T.z_range (pa_cons (pe_op op_add (pv 1) pe_int) (pa_cons (pe_callB call_len_str (by rfl) T.z_len PySem.boot_len (pa_cons (pv 0) pa_nil)) pa_nil))) (pg_name (i := 3) sc_own.nd rfl (Or.inl rfl))
      (pss_one (ps_if (pt_cmpR op_ne (pe_ix ix_str (pv 0) (pv 3) (fun _ _ => rfl)) (pv 2) (nomark _))
      (pss_one (ps_ret (pv 3))) pss_nil)))
      (pss_one (ps_ret (pe_callB call_len_str (by rfl) T.z_len PySem.boot_len (pa_cons (pv 0) pa_nil))))), ?_⟩
    have hl : (sOf l).length ≤ sizeLine := by
      rw [sOf_len]
      exact sz (by omega)
    refine ⟨_, rfl, _, _, rfl, rfl, _, rfl, _, rfl, hl, _, _, rfl, ?_⟩
    rw [sOf_len, show (st : Int) - 1 + 1 = (st : Int) by omega, show ((l.length : Int) - (st : Int)).toNat = l.length - st by omega]
    refine ⟨⟨by omega, by omega, by omega, by omega⟩, for_range (lo := (st : Int)) (n := l.length - st) (fun i σ H' => ∃ y3 : Option V, σ = [some (.str (sOf l)), some (.int ((st : Int) - 1)), some (.str (sOf [c])), y3] ∧ H' = H ∧ ∀ v, st ≤ v → v < st + i → l[v]? ≠ some (oth c)) ⟨none, rfl, rfl, fun v a b => absurd b (by omega)⟩ ?_ ?_⟩
    · rintro i σ H1 hi ⟨y3, rfl, rfl, hn⟩
      have lt : st + i < l.length := by omega
      have ei : (st : Int) + (i : Int) = ((st + i : Nat) : Int) := by omega
      have e1 : l[st + i]? = some l[st + i] := List.getElem?_eq_getElem lt
      have rx := rl _ (List.getElem_mem lt)
      refine ⟨_, rfl, _, rfl, _, _, _, rfl, rfl, hl, (by rw [ei]; exact sOf_at e1), _, rfl, rfl, _, rfl, ?_⟩
      by_cases z1 : l[st + i] = c
      · refine iteN0 (vstr1.mpr z1) ?_
        refine ⟨_, rfl, rfl, fun v a b => ?_⟩
        by_cases z : v = st + i
        · rw [z, e1, z1]
          exact fun y => oth_ne hc (Option.some.inj y).symm
        · exact hn v a (by omega)
      · refine iteN1 (fun y => z1 (vstr1.mp y)) ?_
        have zo : l[st + i] = oth c := by
          rcases hc with rfl | rfl <;> rcases rx with y | y
          · exact absurd y z1
          · exact y
          · exact y
          · exact absurd y z1
        have := fp_uniq (l := l) (c := oth c) (s := st) (k := st + i) (by omega) (by omega) (by omega) hn (fun _ => by rw [e1, zo])
        rw [this] at q
        refine ⟨_, rfl, ?_⟩
        rw [ei]
        exact q
    · rintro σ H1 ⟨y3, rfl, rfl, hn⟩
      have : fp l (oth c) st = l.length := fp_uniq s2 s2 (Nat.le_refl _) (fun v a b => hn v a (by omega)) (fun z => absurd z (by omega))
      rw [this] at q
      refine ⟨_, rfl, _, rfl, hl, ?_⟩
      rw [sOf_len]
      exact q

theorem flipC {c : Nat} (hc : Cell c) : atI (Str.ofString ".#").cps.toList (if decide (V.str (sOf [c]) = V.str (Str.ofString ".")) = true then (1 : Int) else 0) = some (oth c) := by
  rcases hc with rfl | rfl
  · rw [show decide (V.str (sOf [46]) = V.str (Str.ofString ".")) = true from decide_eq_true rfl]
    rfl
  · rw [show decide (V.str (sOf [35]) = V.str (Str.ofString ".")) = false from decide_eq_false (fun h => by have := V.str.inj h; revert this; decide)]
    rfl

/-! ### the law's steps -/
def All2 {α : Type} (P : V → α → Prop) : List V → List α → Prop
  | [], [] => True
  | v :: vs, x :: xs => P v x ∧ All2 P vs xs
  | _, _ => False
theorem All2.len {α : Type} {P : V → α → Prop} : ∀ {vs : List V} {xs : List α}, All2 P vs xs → vs.length = xs.length
  | [], [], _ => rfl
  | _ :: vs, _ :: xs, h => by rw [List.length_cons, List.length_cons, All2.len h.2]
  | [], _ :: _, h => h.elim
  | _ :: _, [], h => h.elim
theorem All2.get {α : Type} {P : V → α → Prop} : ∀ {vs : List V} {xs : List α} {i : Nat} {v : V}, All2 P vs xs → vs[i]? = some v → ∃ x, xs[i]? = some x ∧ P v x
  | [], [], _, _, _, e => by cases e
  | y :: vs, x :: xs, 0, v, h, e => by
    have : y = v := Option.some.inj e
    exact ⟨x, rfl, by rw [← this]; exact h.1⟩
  | y :: vs, x :: xs, i + 1, v, h, e => All2.get (i := i) h.2 e
  | [], _ :: _, _, _, h, _ => h.elim
  | _ :: _, [], _, _, h, _ => h.elim
theorem All2.mono {α : Type} {P P' : V → α → Prop} : ∀ {vs : List V} {xs : List α}, All2 P vs xs → (∀ v x, P v x → P' v x) → All2 P' vs xs
  | [], [], _, _ => trivial
  | y :: vs, x :: xs, h, m => ⟨m _ _ h.1, All2.mono h.2 m⟩
  | [], _ :: _, h, _ => h.elim
  | _ :: _, [], h, _ => h.elim
theorem All2.app {α : Type} {P : V → α → Prop} {ws : List V} {ys : List α} (k : All2 P ws ys) : ∀ {vs : List V} {xs : List α}, All2 P vs xs → All2 P (vs ++ ws) (xs ++ ys)
  | [], [], _ => k
  | _ :: vs, _ :: xs, h => ⟨h.1, All2.app k h.2⟩
  | [], _ :: _, h => h.elim
  | _ :: _, [], h => h.elim
def StcAt (H : Hp) (v : V) (x : Stp × Nat) : Prop := ∃ a t, v = .ref a ∧ H a = some (.tup [.ref t, .str (sOf [x.2])]) ∧ H t = some (.tup (stV x.1))
def spLSteps : Sp := fun vs H Q _ => ∃ (ab l : List Nat), vs = [.str (sOf ab), .str (sOf l)] ∧ ab.length = l.length ∧ l.length ≤ 1000 ∧ Row ab ∧ Row l ∧ ∀ p ws H', H p = none → Same H H' → H' p = some (.lst ws) → All2 (StcAt H') ws (stepsL ab l) → Q (.ref p) H'
theorem ok_steps {A : Ad} (T : Txt w K mg base A) : FnOk P w K mg base CX0 2 A.a_steps A.d_steps P_steps spLSteps := by
  have G_own := ok_own (P := P) (w := w) (base := base) T
  have G_far := ok_far (P := P) (w := w) (base := base) T
  have G_back := ok_back (P := P) (w := w) (base := base) T
  refine T.F_steps.ok sc_steps (fun vs H Q E h => ?_) (fun cdv Ar outer s H vs Q E hr h => ?_)
  · obtain ⟨ab, l, rfl, _⟩ := h
    rfl
  · obtain ⟨ab, l, rfl, el, ll, ra, rl, q⟩ := h
    refine ⟨_, (pss_cons (ps_set (i := 2) sc_steps.nd rfl (Or.inl rfl) (pe_lst pa_nil))
      (pss_cons (ps_set (i := 3) sc_steps.nd rfl (Or.inl rfl) (pe_un un_neg pe_int))
      (pss_cons (ps_set (i := 4) sc_steps.nd rfl (Or.inl rfl) pe_str)
      (pss_cons (ps_for PassesOwn.never rfl (pi_range1 (by rfl) T.z_range (pa_cons (pe_op op_add (pe_callB call_len_str (by rfl) T.z_len PySem.boot_len (pa_cons (pv 1) pa_nil)) pe_int) pa_nil)) (pg_name (i := 5) sc_steps.nd rfl (Or.inl rfl))
      (pss_one (ps_if (pt_cmpR op_lt (pv 3) (pe_callB call_len_str (by rfl) T.z_len PySem.boot_len (pa_cons (pv 1) pa_nil)) (nomark _))
      (pss_cons (ps_set (i := 6) sc_steps.nd rfl (Or.inl rfl) (pe_call G_own (hr.mono (by decide)) (by rfl) T.g_own T.F_own.kp T.b_own .nil pass0 (pa_cons (pv 1) (pa_cons (pv 3) (pa_cons (pv 4) pa_nil)))))
      (pss_cons (ps_set (i := 7) sc_steps.nd rfl (Or.inl rfl) (pe_call G_far (hr.mono (by decide)) (by rfl) T.g_far T.F_far.kp T.b_far .nil pass0 (pa_cons (pv 0) (pa_cons (pv 3) (pa_cons (pv 4) pa_nil)))))
      (pss_cons (ps_set (i := 8) sc_steps.nd rfl (Or.inl rfl) (pe_call G_back (hr.mono (by decide)) (by rfl) T.g_back T.F_back.kp T.b_back .nil pass0 (pa_cons (pv 0) (pa_cons (pv 7) (pa_cons (pv 4) pa_nil)))))
      (pss_one (ps_if (pt_cmpR op_lt (pv 8) (pv 6) (nomark _))
      (pss_cons (ps_expr (pe_bm PySem.F.plainAttrs_list PySem.F.slot_list_append PySem.F.type_list_append mt_append (pv 2) (pa_cons (pe_tup (pa_cons (pe_tup (pa_cons pe_str pa_nil)) (pa_cons (pv 4) pa_nil))) pa_nil)))
      (pss_one (ps_set (i := 3) sc_steps.nd rfl (Or.inl rfl) (pv 8)))) (pss_one (ps_if (pt_chain op_le op_le (pe_un un_neg pe_int) (pe_op op_sub (pv 6) (pv 7)) pe_int)
      (pss_cons (ps_expr (pe_bm PySem.F.plainAttrs_list PySem.F.slot_list_append PySem.F.type_list_append mt_append (pv 2) (pa_cons (pe_tup (pa_cons (pe_tup (pa_cons pe_str (pa_cons (pe_op op_sub (pv 6) (pv 7)) pa_nil))) (pa_cons (pv 4) pa_nil))) pa_nil)))
      (pss_cons (ps_set (i := 3) sc_steps.nd rfl (Or.inl rfl) (pv 6))
      (pss_one (ps_set (i := 4) sc_steps.nd rfl (Or.inl rfl) (pe_ix ix_str pe_str (pe_callTy call_int1 (by rfl) T.z_int (by decide +kernel) (pa_cons (pe_cmpR op_eq (pv 4) pe_str (nomark _)) pa_nil)) (fun _ _ => rfl)))))) (pss_cons (ps_set (i := 9) sc_steps.nd rfl (Or.inl rfl) (pe_call G_back (hr.mono (by decide)) (by rfl) T.g_back T.F_back.kp T.b_back .nil pass0 (pa_cons (pv 1) (pa_cons (pv 6) (pa_cons (pv 4) pa_nil)))))
      (pss_cons (ps_expr (pe_bm PySem.F.plainAttrs_list PySem.F.slot_list_append PySem.F.type_list_append mt_append (pv 2) (pa_cons (pe_tup (pa_cons (pe_tup (pa_cons pe_str (pa_cons (pe_op op_sub (pv 6) (pe_callB (call_max2 rfl) (by rfl) T.z_max (by decide +kernel) (pa_cons (pv 3) (pa_cons pe_int pa_nil)))) (pa_cons (pe_op op_sub (pv 9) (pv 6)) pa_nil)))) (pa_cons (pv 4) pa_nil))) pa_nil)))
      (pss_one (ps_set (i := 3) sc_steps.nd rfl (Or.inl rfl) (pv 9)))))))))))) pss_nil)))
      (pss_one (ps_ret (pv 2))))))), ?_⟩
    have hl : (sOf l).length ≤ sizeLine := by
      rw [sOf_len]
      exact sz (by omega)
    refine ⟨(by show 0 ≤ sizeLine; decide), fun p hp => ?_⟩
    refine ⟨_, rfl, _, rfl, _, rfl, hl, _, _, rfl, rfl, _, rfl, ?_⟩
    rw [sOf_len]
    refine ⟨by omega, by omega, ?_⟩
    rw [show ((l.length : Int) + 1).toNat = l.length + 1 by omega]
    refine for_range (lo := 0) (n := l.length + 1) (fun i σ H' => ∃ (s c : Nat) (ws : List V) (done : List (Stp × Nat)) (y5 y6 y7 y8 y9 : Option V), σ = [some (.str (sOf ab)), some (.str (sOf l)), some (.ref p), some (.int ((s : Int) - 1)), some (.str (sOf [c])), y5, y6, y7, y8, y9] ∧ Same H H' ∧ H' p = some (.lst ws) ∧ All2 (StcAt H') ws done ∧ done ++ stepsAt ab l s c = stepsL ab l ∧ Cell c ∧ s ≤ l.length + 1 ∧ (s = 0 → c = 46) ∧ (i ≤ s ∨ l.length < s))
      ⟨0, 46, [], [], none, none, none, none, none, rfl, same_new hp, upd_same, trivial, rfl, .inl rfl, by omega, fun _ => rfl, .inl (Nat.le_refl _)⟩ ?_ ?_
    · rintro i σ H1 hi ⟨s, c, ws, done, y5, y6, y7, y8, y9, rfl, sm, hp1, hA, hd, hc, hs1, h0, his⟩
      refine ⟨_, rfl, _, rfl, _, rfl, hl, _, _, rfl, rfl, _, rfl, ?_⟩
      rw [sOf_len]
      by_cases hs : s ≤ l.length
      · refine iteD1 (by omega) ?_
        rw [stepsAt_go el hs] at hd
        have dl : done.length ≤ l.length := by
          have := congrArg List.length hd
          have h2 := stepsF_len ab l (l.length + 1) 0 46
          rw [List.length_append, List.length_cons] at this
          unfold stepsL at this
          omega
        have A1 := stA_le (c := c) hs
        have E1 := stE_le (c := c) hs
        have B1 := fch_le (ab := ab) (c := c) (by omega : s ≤ ab.length)
        have L1 := ledN_le (c := c) hs el
        -- a turn's end
        have fin : ∀ (t a : Addr) (H2 : Hp) (z6 z7 z8 z9 : Option V), H1 t = none → upd H1 t (.tup (stV (stepAt ab l s c))) a = none → H2 = upd (upd (upd H1 t (.tup (stV (stepAt ab l s c)))) a (.tup [.ref t, .str (sOf [c])])) p (.lst (ws ++ [.ref a])) → ∃ (s' c' : Nat) (ws : List V) (done : List (Stp × Nat)) (y5 y6 y7 y8 y9 : Option V), [some (V.str (sOf ab)), some (.str (sOf l)), some (.ref p), some (.int (ledN ab l s c : Int)), some (.str (sOf [colB c (stepAt ab l s c)])), some (.int (0 + (i : Int))), z6, z7, z8, z9] = [some (.str (sOf ab)), some (.str (sOf l)), some (.ref p), some (.int ((s' : Int) - 1)), some (.str (sOf [c'])), y5, y6, y7, y8, y9] ∧ Same H H2 ∧ H2 p = some (.lst ws) ∧ All2 (StcAt H2) ws done ∧ done ++ stepsAt ab l s' c' = stepsL ab l ∧ Cell c' ∧ s' ≤ l.length + 1 ∧ (s' = 0 → c' = 46) ∧ (i + 1 ≤ s' ∨ l.length < s') := by
          intro t a H2 z6 z7 z8 z9 nt na e2
          have tp : t ≠ p := (ne_of_none hp1 nt).symm
          have ta : t ≠ a := ne_of_none upd_same na
          have ap : a ≠ p := by
            have : upd H1 t (.tup (stV (stepAt ab l s c))) p = some (.lst ws) := by rw [upd_ne tp.symm]; exact hp1
            exact (ne_of_none this na).symm
          have na1 : H1 a = none := by rw [upd_ne ta.symm] at na; exact na
          subst e2
          refine ⟨ledN ab l s c + 1, colB c (stepAt ab l s c), ws ++ [.ref a], done ++ [(stepAt ab l s c, c)], some (.int (0 + (i : Int))), z6, z7, z8, z9, ?_, ?_, upd_same, ?_, ?_, colB_cell hc _, by omega, fun z => absurd z (by omega), by rcases his with z | z <;> omega⟩
          · rw [show (((ledN ab l s c + 1 : Nat) : Int) - 1) = (ledN ab l s c : Int) by omega]
          · exact Same.mut ((sm.trans (same_new nt)).trans (same_new na)) hp
          · have ht' : upd (upd (upd H1 t (.tup (stV (stepAt ab l s c)))) a (.tup [.ref t, .str (sOf [c])])) p (.lst (ws ++ [.ref a])) t = some (.tup (stV (stepAt ab l s c))) := by rw [upd_ne tp, upd_ne ta, upd_same]
            have ha' : upd (upd (upd H1 t (.tup (stV (stepAt ab l s c)))) a (.tup [.ref t, .str (sOf [c])])) p (.lst (ws ++ [.ref a])) a = some (.tup [.ref t, .str (sOf [c])]) := by rw [upd_ne ap, upd_same]
            have keep : ∀ b xs, H1 b = some (.tup xs) → upd (upd (upd H1 t (.tup (stV (stepAt ab l s c)))) a (.tup [.ref t, .str (sOf [c])])) p (.lst (ws ++ [.ref a])) b = some (.tup xs) := fun b xs z => by
              have nb : b ≠ p := fun y => by
                rw [y, hp1] at z
                cases z
              rw [upd_ne nb, upd_ne (ne_of_none z na1), upd_ne (ne_of_none z nt)]
              exact z
            exact All2.app (ws := [.ref a]) (ys := [(stepAt ab l s c, c)]) (And.intro ⟨a, t, rfl, ha', ht'⟩ trivial) (hA.mono fun v x ⟨b, u, e, h1, h2⟩ => ⟨b, u, e, keep _ _ h1, keep _ _ h2⟩)
          · rw [List.append_assoc]
            exact hd
        have wsz : ws.length < sizeLine := by
          rw [hA.len]
          exact szl (by omega)
        refine ⟨_, rfl, _, rfl, _, rfl, l, s, c, _, rfl, rfl, by omega, hs, rl, hc, ?_⟩
        refine ⟨_, rfl, _, rfl, _, rfl, ab, s, c, _, rfl, rfl, by omega, by omega, ra, hc, h0, ?_⟩
        refine ⟨_, rfl, _, rfl, _, rfl, ab, fch ab s c + 1, c, _, rfl, by omega, by omega, by omega, ?_⟩
        refine ⟨_, rfl, _, rfl, _, _, rfl, rfl, _, rfl, ?_⟩
        show if decide ((stC ab s c : Int) < (stA l s c : Int)) = true then _ else _
        by_cases h1 : stC ab s c < stA l s c
        · refine iteD1 (by omega) ?_
          have es : stepAt ab l s c = .passed := if_pos h1
          have eL : ledN ab l s c = stC ab s c := if_pos h1
          refine ⟨_, rfl, .inl ⟨rfl, _, SqL.of hp1⟩, (by show 1 ≤ sizeLine; decide), fun t nt => ⟨_, rfl, (by show 2 ≤ sizeLine; decide), fun a na => ?_⟩⟩
          refine ⟨p, _, _, rfl, rfl, (((same_new nt).trans (same_new na)) _ _ hp1), wsz, ?_⟩
          refine ⟨_, rfl, ?_⟩
          rw [es, eL] at fin
          exact fin t a _ _ _ _ _ nt na rfl
        · refine iteD0 (by omega) ?_
          refine ⟨_, rfl, _, rfl, _, rfl, _, _, rfl, rfl, _, _, rfl, rfl, _, rfl, ?_⟩
          show if decide (-3 ≤ (stA l s c : Int) - (fch ab s c : Int)) = true then _ else _
          by_cases h2 : NearP ab l s c
          · have es : stepAt ab l s c = .near ((stA l s c : Int) - (fch ab s c : Int)) := by
              unfold stepAt
              rw [if_neg h1, if_pos h2]
            have eL : ledN ab l s c = stA l s c := by
              unfold ledN
              rw [if_neg h1, if_pos h2]
            unfold NearP at h2
            refine iteD1 (by omega) ⟨_, _, rfl, rfl, _, rfl, iteD1 (by show (stA l s c : Int) - (fch ab s c : Int) ≤ 3; omega) ?_⟩
            refine ⟨_, rfl, .inl ⟨rfl, _, SqL.of hp1⟩, _, rfl, _, rfl, _, _, rfl, rfl, (by show 2 ≤ sizeLine; decide), fun t nt => ⟨_, rfl, (by show 2 ≤ sizeLine; decide), fun a na => ?_⟩⟩
            refine ⟨p, _, _, rfl, rfl, (((same_new nt).trans (same_new na)) _ _ hp1), wsz, ?_⟩
            refine ⟨_, rfl, ?_⟩
            refine ⟨_, rfl, rfl, .inr ⟨_, rfl, _, _, _, rfl, rfl, two_len, flipC hc, ?_⟩⟩
            rw [es, eL] at fin
            exact fin t a _ _ _ _ _ nt na rfl
          · have es : stepAt ab l s c = .plain (stA l s c - (s - 1)) (stE l s c - stA l s c) := by
              unfold stepAt
              rw [if_neg h1, if_neg h2]
            have eL : ledN ab l s c = stE l s c := by
              unfold ledN
              rw [if_neg h1, if_neg h2]
            unfold NearP at h2
            by_cases h3 : (stA l s c : Int) - (fch ab s c : Int) ≤ -4
            · refine iteD0 (by omega) ⟨_, rfl, iteF ?_⟩
              refine ⟨_, rfl, _, rfl, _, rfl, l, stA l s c + 1, c, _, rfl, (by show (stA l s c : Int) = _; omega), by omega, by omega, ?_⟩
              refine ⟨_, rfl, .inl ⟨rfl, _, SqL.of hp1⟩, _, rfl, _, rfl, _, _, rfl, _, _, rfl, rfl, _, rfl, _, rfl, _, _, rfl, rfl, (by show 3 ≤ sizeLine; decide), fun t nt => ⟨_, rfl, (by show 2 ≤ sizeLine; decide), fun a na => ?_⟩⟩
              refine ⟨p, _, _, rfl, rfl, (((same_new nt).trans (same_new na)) _ _ hp1), wsz, ?_⟩
              refine ⟨_, rfl, ?_⟩
              rw [es, eL] at fin
              have ea : (stA l s c : Int) - (if (0 : Int) > (s : Int) - 1 then (0 : Int) else (s : Int) - 1) = ((stA l s c - (s - 1) : Nat) : Int) := by
                split <;> omega
              have eb : (stE l s c : Int) - (stA l s c : Int) = ((stE l s c - stA l s c : Nat) : Int) := by omega
              have ev : [V.str (Str.ofString "plain"), .int ((stA l s c : Int) - (if (0 : Int) > (s : Int) - 1 then (0 : Int) else (s : Int) - 1)), .int ((stE l s c : Int) - (stA l s c : Int))] = stV (.plain (stA l s c - (s - 1)) (stE l s c - stA l s c)) := by
                rw [ea, eb]
                rfl
              have na : upd H1 t (.tup [V.str (Str.ofString "plain"), .int ((stA l s c : Int) - (if (0 : Int) > (s : Int) - 1 then (0 : Int) else (s : Int) - 1)), .int ((stE l s c : Int) - (stA l s c : Int))]) a = none := na
              show ∃ (s' c' : Nat) (ws : List V) (done : List (Stp × Nat)) (y5 y6 y7 y8 y9 : Option V), _
              have fe := fin t a (upd (upd (upd H1 t (.tup [V.str (Str.ofString "plain"), .int ((stA l s c : Int) - (if (0 : Int) > (s : Int) - 1 then (0 : Int) else (s : Int) - 1)), .int ((stE l s c : Int) - (stA l s c : Int))])) a (.tup [.ref t, .str (sOf [c])])) p (.lst (ws ++ [.ref a]))) (some (.int (stA l s c : Int))) (some (.int (fch ab s c : Int))) (some (.int (stC ab s c : Int))) (some (.int (stE l s c : Int))) nt (by rw [← ev]; exact na) (by rw [ev])
              exact fe
            · refine iteD1 (by omega) ⟨_, _, rfl, rfl, _, rfl, iteD0 (by show ¬ (stA l s c : Int) - (fch ab s c : Int) ≤ 3; omega) ?_⟩
              refine ⟨_, rfl, _, rfl, _, rfl, l, stA l s c + 1, c, _, rfl, (by show (stA l s c : Int) = _; omega), by omega, by omega, ?_⟩
              refine ⟨_, rfl, .inl ⟨rfl, _, SqL.of hp1⟩, _, rfl, _, rfl, _, _, rfl, _, _, rfl, rfl, _, rfl, _, rfl, _, _, rfl, rfl, (by show 3 ≤ sizeLine; decide), fun t nt => ⟨_, rfl, (by show 2 ≤ sizeLine; decide), fun a na => ?_⟩⟩
              refine ⟨p, _, _, rfl, rfl, (((same_new nt).trans (same_new na)) _ _ hp1), wsz, ?_⟩
              refine ⟨_, rfl, ?_⟩
              rw [es, eL] at fin
              have ea : (stA l s c : Int) - (if (0 : Int) > (s : Int) - 1 then (0 : Int) else (s : Int) - 1) = ((stA l s c - (s - 1) : Nat) : Int) := by
                split <;> omega
              have eb : (stE l s c : Int) - (stA l s c : Int) = ((stE l s c - stA l s c : Nat) : Int) := by omega
              have ev : [V.str (Str.ofString "plain"), .int ((stA l s c : Int) - (if (0 : Int) > (s : Int) - 1 then (0 : Int) else (s : Int) - 1)), .int ((stE l s c : Int) - (stA l s c : Int))] = stV (.plain (stA l s c - (s - 1)) (stE l s c - stA l s c)) := by
                rw [ea, eb]
                rfl
              have na : upd H1 t (.tup [V.str (Str.ofString "plain"), .int ((stA l s c : Int) - (if (0 : Int) > (s : Int) - 1 then (0 : Int) else (s : Int) - 1)), .int ((stE l s c : Int) - (stA l s c : Int))]) a = none := na
              show ∃ (s' c' : Nat) (ws : List V) (done : List (Stp × Nat)) (y5 y6 y7 y8 y9 : Option V), _
              have fe := fin t a (upd (upd (upd H1 t (.tup [V.str (Str.ofString "plain"), .int ((stA l s c : Int) - (if (0 : Int) > (s : Int) - 1 then (0 : Int) else (s : Int) - 1)), .int ((stE l s c : Int) - (stA l s c : Int))])) a (.tup [.ref t, .str (sOf [c])])) p (.lst (ws ++ [.ref a]))) (some (.int (stA l s c : Int))) (some (.int (fch ab s c : Int))) (some (.int (stC ab s c : Int))) (some (.int (stE l s c : Int))) nt (by rw [← ev]; exact na) (by rw [ev])
              exact fe
      · refine iteD0 (by omega) ?_
        exact ⟨s, c, ws, done, some (.int (0 + (i : Int))), y6, y7, y8, y9, rfl, sm, hp1, hA, hd, hc, hs1, h0, .inr (by omega)⟩
    · rintro σ H1 ⟨s, c, ws, done, y5, y6, y7, y8, y9, rfl, sm, hp1, hA, hd, hc, hs1, h0, his⟩
      have hs : l.length < s := by rcases his with z | z <;> omega
      rw [stepsAt_end hs, List.append_nil] at hd
      rw [hd] at hA
      exact ⟨_, rfl, q p ws H1 hp sm hp1 hA⟩

theorem int_yes : PySem.W.kitOne K (.type "int") (.type "int") = some true := kit_ty (by decide +kernel)
theorem int_nob : PySem.W.kitOne K (.type "int") (.type "bool") = some false := kit_ty (by decide +kernel)
theorem list_yes : PySem.W.kitOne K (.type "list") (.type "list") = some true := kit_ty (by decide +kernel)
def spWhole : Sp := fun vs H Q _ => ∃ i : Int, vs = [.int i] ∧ Q (.bl true) H
theorem ok_whole {A : Ad} (T : Txt w K mg base A) : FnOk P w K mg base CX0 1 A.a_whole A.d_whole P_whole spWhole := by
  refine T.F_whole.ok sc_whole (fun vs H Q E h => ?_) (fun cdv Ar outer s H vs Q E hr h => ?_)
  · obtain ⟨i, rfl, _⟩ := h
    rfl
  · obtain ⟨i, rfl, q⟩ := h
    refine ⟨_, (pss_one (ps_ret (pe_and (pe_callB (r := rIsi K) call_isi (by rfl) T.z_isinstance (by decide +kernel) (pa_cons (pv 0) (pa_cons (pe_bltn (v := .ty "int") (by rfl) T.z_int (by decide +kernel) rfl) pa_nil))) (pe_one (pe_not (pe_callB (r := rIsi K) call_isi (by rfl) T.z_isinstance (by decide +kernel) (pa_cons (pv 0) (pa_cons (pe_bltn (v := .ty "bool") (by rfl) T.z_bool (by decide +kernel) rfl) pa_nil)))))))), ?_⟩
    refine ⟨_, rfl, _, _, _, _, true, rfl, ClsV.ty _, TyX.base (.int _), int_yes, _, rfl, ?_⟩
    refine ⟨_, rfl, _, _, _, _, false, rfl, ClsV.ty _, TyX.base (.int _), int_nob, _, rfl, ?_⟩
    exact q
theorem rep_more (i : Nat) : (List.replicate i true).map V.bl ++ [V.bl true] = (List.replicate (i + 1) true).map V.bl := by
  rw [List.replicate_succ', List.map_append]
  rfl
theorem rep_all (n : Nat) : (List.replicate n true).all id = true := by
  rw [List.all_eq_true]
  intro x hx
  exact (List.mem_replicate.mp hx).2
def stD : Stp → PyData
  | .passed => .tuple [.str (Str.ofString "passed")]
  | .near d => .tuple [.str (Str.ofString "near"), .int d]
  | .plain a b => .tuple [.str (Str.ofString "plain"), .int (a : Int), .int (b : Int)]
theorem dp_sts {H : Hp} : ∀ {ws : List V} {sts : List Stp}, TupsAt stV H ws sts → DpAll K H ws (sts.map stD)
  | [], [], _ => .nil
  | x :: ws, st :: sts, h => by
    obtain ⟨⟨a, rfl, ha⟩, h2⟩ := h
    refine .cons ?_ (dp_sts h2)
    cases st with
    | passed => exact .tup (SqT.of ha) (.cons (.str _) .nil)
    | near d => exact .tup (SqT.of ha) (.cons (.str _) (.cons (.int _) .nil))
    | plain x y => exact .tup (SqT.of ha) (.cons (.str _) (.cons (.int _) (.cons (.int _) .nil)))
  | [], _ :: _, h => h.elim
  | _ :: _, [], h => h.elim
theorem lay_sts : ∀ sts : List Stp, PyData.canLayAll0 (sts.map stD) = true
  | [] => by simp [PyData.canLayAll0]
  | st :: r => by
    have h1 := lay_sts r
    have h2 : PyData.canLay0 (stD st) = true := by
      have t1 : PyData.strOk (Str.ofString "passed") = true := by decide +kernel
      have t2 : PyData.strOk (Str.ofString "near") = true := by decide +kernel
      have t3 : PyData.strOk (Str.ofString "plain") = true := by decide +kernel
      cases st <;> simp only [stD, PyData.canLay0, PyData.canLayAll0, t1, t2, t3, Bool.and_true]
    simp only [List.map_cons, PyData.canLayAll0, h1, h2, Bool.and_true]
theorem depth_sts : ∀ sts : List Stp, PyData.depthAll (sts.map stD) ≤ 1
  | [] => by simp [PyData.depthAll]
  | st :: r => by
    have h := depth_sts r
    have h2 : PyData.depth (stD st) ≤ 1 := by
      cases st <;> simp [stD, PyData.depth, PyData.depthAll]
    simp only [List.map_cons, PyData.depthAll]
    omega
theorem shaped_sts (sts : List Stp) : SeqAt.shaped (.list (sts.map stD)) = true := by
  show (PyData.canLay0 (.list (sts.map stD)) && decide (PyData.depth (.list (sts.map stD)) ≤ 64)) = true
  rw [Bool.and_eq_true]
  refine ⟨by simp only [PyData.canLay0]; exact lay_sts sts, decide_eq_true ?_⟩
  have := depth_sts sts
  simp only [PyData.depth]
  omega
theorem eqv_sts (sts : List Stp) : PyData.eqv (.list (sts.map stD)) (.list (sts.map stD)) = true := SeqAt.eqv_refl _ (by simp only [PyData.canLay0]; exact lay_sts sts)
def spGood : Sp := fun vs H Q _ => ∃ (ab l : List Nat), vs = [.str (sOf ab), .str (sOf l)] ∧ ab.length = l.length ∧ 1 ≤ l.length ∧ l.length ≤ 64 ∧ Row ab ∧ Row l ∧ ∀ H', Same H H' → Q (.bl true) H'
theorem ok_good {A : Ad} (T : Txt w K mg base A) : FnOk P w K mg base CX0 5 A.a_good A.d_good P_good spGood := by
  have G_above_steps := ok_above_steps (P := P) (w := w) (base := base) T
  have G_steps := ok_steps (P := P) (w := w) (base := base) T
  have G_whole := ok_whole (P := P) (w := w) (base := base) T
  refine T.F_good.ok sc_good (fun vs H Q E h => ?_) (fun cdv Ar outer s H vs Q E hr h => ?_)
  · obtain ⟨ab, l, rfl, _⟩ := h
    rfl
  · obtain ⟨ab, l, rfl, el, l0, l1, ra, rl, q⟩ := h
    refine ⟨_, (pss_cons (ps_setLc (i := 2) (own := [("_law_step", 4), ("_law_colour", 5)]) (g := gTup K 2 (gCons (gName 4) (gCons (gName 5) gNil))) (tt := tYes) (by rfl) sc_good.nd rfl rfl (sw_true rfl rfl rfl (by decide +kernel)) (pi_list (pe_call G_steps (hr.mono (by decide)) (by rfl) T.g_steps T.F_steps.kp T.b_steps .nil pass0 (pa_cons (pv 0) (pa_cons (pv 1) pa_nil)))) (blkOk_by (own := [("_law_step", 4), ("_law_colour", 5)]) (N := N_good) (sc := defScope s_good) (by decide +kernel)) (fun _ _ _ _ _ => pg_tup (by rfl) (pgs_cons (pg_name (i := 4) sc_good.nd rfl (Or.inl rfl)) (pgs_cons (pg_name (i := 5) sc_good.nd rfl (Or.inl rfl)) pgs_nil))) (fun _ _ _ _ _ => pts_nil) (fun _ _ _ _ _ => (pv 4)))
      (pss_cons (ps_set (i := 3) sc_good.nd rfl (Or.inl rfl) (pe_call G_above_steps (hr.mono (by decide)) (by rfl) T.g_above_steps T.F_above_steps.kp T.b_above_steps .nil pass0 (pa_cons (pv 0) (pa_cons (pv 1) pa_nil))))
      (pss_cons (ps_if (PW.pt (pw_or (pt_not (pt_val (pe_callB (r := rIsi K) call_isi (by rfl) T.z_isinstance (by decide +kernel) (pa_cons (pv 3) (pa_cons (pe_bltn (v := .ty "list") (by rfl) T.z_list (by decide +kernel) rfl) pa_nil))))) (pw_or1 (pt_cmpR (op_neD hr.units) (pv 3) (pv 2) (nomark _)))))
      (pss_one (ps_ret pe_bl)) pss_nil)
      (pss_cons (ps_if (pt_not (pt_val (pe_callB (cr_all rfl) (by rfl) T.z_all (by decide +kernel) (pa_cons (pe_lc (own := [("_law_step", 4)]) (g := gName 4) (tt := tYes) (by rfl) sc_good.nd (pi_list (pv 3)) (blkOk_by (own := [("_law_step", 4)]) (N := N_good) (sc := defScope s_good) (by decide +kernel)) (fun _ _ _ _ _ => pg_name (i := 4) sc_good.nd rfl (Or.inl rfl)) (fun _ _ _ _ _ => pts_nil) (fun s5 H5 C5 cl5 fp5 => (by exact pe_callB (r := rAll K) (cr_all rfl) (by rfl) T.z_all (by decide +kernel) (pa_cons (pe_lc (own := [("_law_number", 6)]) (g := gName 6) (tt := tYes) (by rfl) sc_good.nd (pi_tupK (K := K) rfl (pe_slice sl_tupW (pv 4) (po_some pe_int) po_none)) (blkOk_by (own := [("_law_number", 6)]) (N := N_good) (sc := osc_0) (by decide +kernel)) (fun _ _ _ _ _ => pg_name (i := 6) sc_good.nd rfl (Or.inl rfl)) (fun _ _ _ _ _ => pts_nil) (fun s5 H5 C5 cl5 fp5 => (pe_call G_whole (hr.mono (by decide)) (by rfl) T.g_whole T.F_whole.kp T.b_whole .nil pass0 (pa_cons (pv 6) pa_nil)))) pa_nil)))) pa_nil))))
      (pss_one (ps_ret pe_bl)) pss_nil)
      (pss_cons (ps_expr (pe_bm PySem.F.plainAttrs_list PySem.F.slot_list_append PySem.F.type_list_append mt_append (pv 3) (pa_cons (pe_tup (pa_cons pe_str pa_nil)) pa_nil)))
      (pss_cons (ps_asg (pe_tup (pa_cons pe_str (pa_cons pe_int pa_nil))) (pg_sub (pv 3) pe_int set_list))
      (pss_one (ps_ret (pe_cmpR (op_eqD hr.units) (pe_call G_above_steps (hr.mono (by decide)) (by rfl) T.g_above_steps T.F_above_steps.kp T.b_above_steps .nil pass0 (pa_cons (pv 0) (pa_cons (pv 1) pa_nil))) (pv 2) (nomark _)))))))))), ?_⟩
    refine ⟨_, rfl, _, rfl, ab, l, rfl, el, by omega, ra, rl, fun ps ws H1 nps s1 hps hA => ?_⟩
    have wl := hA.len
    have sl : (stepsL ab l).length ≤ l.length + 1 := stepsF_len ab l (l.length + 1) 0 46
    refine ⟨ps, rfl, ⟨_, SqL.of hps⟩, fun D hD => lc_list (K := K) (a := ps) (xs := ws) (fun i H' => Same H1 H' ∧ ∃ ds, H' D = some (.lst ds) ∧ TupsAt stV H' ds (((stepsL ab l).take i).map (·.1))) ⟨same_new hD, [], upd_same, trivial⟩ (fun i H' _ hh => SqL.of (hh.1 _ _ hps)) ?_ ?_⟩
    · rintro j x H2 hx ⟨sm, ds, hD2, ht⟩
      obtain ⟨st, hst, a, t, rfl, ha, hta⟩ := hA.get hx
      refine ⟨a, _, rfl, SqT.of (sm _ _ ha), rfl, _, _, rfl, _, _, rfl, rfl, rfl, _, rfl, _, hD2, ?_, Same.mut sm hD, _, upd_same, ?_⟩
      · rw [ht.len, List.length_map, List.length_take]
        exact szl (by omega)
      · have keep : ∀ b xs, H2 b = some (.tup xs) → upd H2 D (.lst (ds ++ [.ref t])) b = some (.tup xs) := fun b xs z => by
          rw [upd_ne (fun y => by rw [y, hD2] at z; cases z)]
          exact z
        rw [take_more _ _ _ hst, List.map_append]
        exact TupsAt.app (ws := [.ref t]) (ys := [st.1]) (And.intro ⟨t, rfl, keep _ _ (sm _ _ hta)⟩ trivial) (ht.mono keep)
    rintro H2 ⟨sm2, ds, hD2, ht2⟩
    rw [wl, List.take_length] at ht2
    generalize hsts : (stepsL ab l).map (·.1) = sts at ht2
    have stl : sts.length = (stepsL ab l).length := by rw [← hsts, List.length_map]
    refine ⟨_, rfl, _, rfl, ab, l, rfl, el, by omega, fun p ws3 H3 np s3 hp ht3 => ?_⟩
    rw [hsts] at ht3
    have hD3 := s3 _ _ hD2
    have htD3 := ht2.mono fun b xs z => s3 b _ z
    refine ⟨_, rfl, _, _, _, _, true, rfl, ClsV.ty _, TyX.base (.lst hp), list_yes, _, rfl, ?_⟩
    refine ⟨_, rfl, _, rfl, _, _, .lst (SqL.of hp) (dp_sts ht3), .lst (SqL.of hD3) (dp_sts htD3), shaped_sts _, shaped_sts _, _, rfl, ?_⟩
    rw [eqv_sts]
    have wl3 := ht3.len
    refine ⟨_, rfl, p, rfl, ⟨_, SqL.of hp⟩, fun D4 hD4 => lc_list (K := K) (a := p) (xs := ws3) (fun i H' => Same H3 H' ∧ H' D4 = some (.lst ((List.replicate i true).map V.bl))) ⟨same_new hD4, upd_same⟩ (fun i H' _ hh => SqL.of (hh.1 _ _ hp)) ?_ ?_⟩
    · rintro j x H4 hx ⟨sm4, hD5⟩
      obtain ⟨st, a, hst, rfl, ha⟩ := ht3.get hx
      have jl := (List.getElem?_eq_some_iff.mp hst).1
      refine ⟨rfl, _, rfl, _, rfl, a, _, rfl, sm4 _ _ ha, fun q5 H5 s5 hq5 => ?_⟩
      rw [cut1] at hq5
      have n4 : D4 ≠ q5 := fun z => by
        have := s5 _ _ hD5
        rw [z, hq5] at this
        cases this
      refine ⟨q5, rfl, ⟨_, SqT.of hq5⟩, fun D6 hD6 => lc_it (walk_tup (K := K) (a := q5) (xs := (stV st).drop 1)) (fun i H' => Same H5 H' ∧ H' D6 = some (.lst ((List.replicate i true).map V.bl))) ⟨same_new hD6, upd_same⟩ (fun i H' _ hh => SqT.of (hh.1 _ _ hq5)) ?_ ?_⟩
      · rintro m y H6 H7 hm ⟨sm6, hD7⟩ ⟨rfl, hy⟩
        obtain ⟨i, rfl⟩ : ∃ i, y = .int i := by
          have hm := List.mem_of_getElem? hy
          cases st with
          | passed => cases hm
          | near d =>
            rw [List.mem_singleton.mp hm]
            exact ⟨_, rfl⟩
          | plain u v =>
            rcases List.mem_cons.mp hm with z | z
            · exact ⟨_, z⟩
            · rw [List.mem_singleton.mp z]
              exact ⟨_, rfl⟩
        have ml : m < 3 := by
          have := (List.getElem?_eq_some_iff.mp hy).1
          rw [List.length_drop] at this
          have : (stV st).length ≤ 3 := by cases st <;> simp [stV]
          omega
        refine ⟨rfl, _, rfl, i, rfl, _, hD7, ?_, Same.mut sm6 hD6, ?_⟩
        · rw [List.length_map, List.length_replicate]
          exact szl (by omega)
        · rw [upd_same, rep_more]
      · rintro H6 ⟨sm6, hD7⟩
        refine ⟨_, _, rfl, SqL.of hD7, ?_⟩
        rw [rep_all]
        have s46 := s5.trans sm6
        refine ⟨_, s46 _ _ hD5, ?_, Same.mut (sm4.trans s46) hD4, ?_⟩
        · rw [List.length_map, List.length_replicate]
          exact szl (by omega)
        · rw [upd_same, rep_more]
    rintro H4 ⟨sm4, hD5⟩
    refine ⟨_, _, rfl, SqL.of hD5, _, rfl, ?_⟩
    rw [rep_all]
    have hp4 := sm4 _ _ hp
    refine ⟨_, rfl, .inl ⟨rfl, _, SqL.of hp4⟩, (by show 1 ≤ sizeLine; decide), fun t1 nt1 => ?_⟩
    have n1 : p ≠ t1 := ne_of_none hp4 nt1
    refine ⟨p, _, _, rfl, rfl, (by rw [upd_ne n1]; exact hp4), (by rw [wl3]; exact szl (by omega)), ?_⟩
    refine ⟨(by show 2 ≤ sizeLine; decide), fun t2 nt2 => ?_⟩
    have n2 : p ≠ t2 := ne_of_none upd_same nt2
    refine ⟨_, rfl, p, _, _, 0, rfl, rfl, (by rw [upd_ne n2]; exact upd_same), Evl.ixN_nat (j := 0) (by rw [List.length_append]; exact Nat.succ_pos _), ?_⟩
    generalize hH6 : upd (upd (upd (upd H4 t1 _) p _) t2 _) p _ = H6
    have s6 : ∀ b o, b ≠ p → H4 b = some o → H6 b = some o := fun b o nb z => by
      have z1 : upd (upd H4 t1 (.tup [.str (Str.ofString "passed")])) p (.lst (ws3 ++ [.ref t1])) b = some o := by
        rw [upd_ne nb, upd_ne (ne_of_none z nt1)]
        exact z
      rw [← hH6, upd_ne nb, upd_ne (ne_of_none z1 nt2)]
      exact z1
    have nDp : D ≠ p := ne_of_none hD2 np
    have hD6 : H6 D = some (.lst ds) := s6 _ _ nDp (sm4 _ _ hD3)
    have htD6 : TupsAt stV H6 ds sts := htD3.mono fun b xs z => s6 _ _ (fun y => by rw [y, hp] at z; cases z) (sm4 _ _ z)
    have sHH : Same H H6 := fun b o z => by
      have z3 : H2 b = some o := sm2 _ _ (s1 _ _ z)
      exact s6 _ _ (ne_of_none z3 np) (sm4 _ _ (s3 _ _ z3))
    refine ⟨_, rfl, _, rfl, ab, l, rfl, el, by omega, fun p9 ws9 H9 np9 s9 hp9 ht9 => ?_⟩
    rw [hsts] at ht9
    refine ⟨_, rfl, _, _, .lst (SqL.of hp9) (dp_sts ht9), .lst (SqL.of (s9 _ _ hD6)) (dp_sts (htD6.mono fun b xs z => s9 b _ z)), shaped_sts _, shaped_sts _, ?_⟩
    rw [eqv_sts]
    exact q H9 (sHH.trans s9)
def spLaw (K : PySem.W.Frag) : Sp := fun vs H Q _ => ∃ (a : Addr) (ns : List Int), vs = [.ref a] ∧ SqL K H a (ns.map V.int) ∧ ns.length ≤ 63 ∧ ∀ H', Q (.bl true) H'
theorem ok_law {A : Ad} (T : Txt w K mg base A) : FnOk P w K mg base CX0 6 A.a_law A.d_law P_law (spLaw K) := by
  have G_bag := ok_bag (P := P) (w := w) (base := base) T
  have G_pair := ok_pair (P := P) (w := w) (base := base) T
  have G_good := ok_good (P := P) (w := w) (base := base) T
  refine T.F_law.ok sc_law (fun vs H Q E h => ?_) (fun cdv Ar outer s H vs Q E hr h => ?_)
  · obtain ⟨a, ns, rfl, _⟩ := h
    rfl
  · obtain ⟨a, ns, rfl, hS, ln, q⟩ := h
    refine ⟨_, (pss_cons (ps_for PassesOwn.never rfl (pi_range1 (by rfl) T.z_range (pa_cons (pe_callB (call_max2 rfl) (by rfl) T.z_max (by decide +kernel) (pa_cons pe_int (pa_cons (pe_callB (call_min2 rfl) (by rfl) T.z_min (by decide +kernel) (pa_cons pe_int (pa_cons (pe_callB (r := fun xs H Q => ∃ p ys, xs = [.ref p] ∧ (SqL K H p ys ∨ SqT K H p ys) ∧ Q (.int ys.length) H) call_len_seq (by rfl) T.z_len PySem.boot_len (pa_cons (pv 0) pa_nil)) pa_nil))) pa_nil))) pa_nil)) (pg_name (i := 1) sc_law.nd rfl (Or.inl rfl))
      (pss_cons (ps_set (i := 2) sc_law.nd rfl (Or.inl rfl) (pe_call G_bag (hr.mono (by decide)) (by rfl) T.g_bag T.F_bag.kp T.b_bag .nil pass0 (pa_cons (pv 0) (pa_cons (pv 1) pa_nil))))
      (pss_cons (ps_asg (pe_call G_pair (hr.mono (by decide)) (by rfl) T.g_pair T.F_pair.kp T.b_pair .nil pass0 (pa_cons (pv 2) pa_nil)) (pg_lst (by rfl) (pgs_cons (pg_name (i := 3) sc_law.nd rfl (Or.inl rfl)) (pgs_cons (pg_name (i := 4) sc_law.nd rfl (Or.inl rfl)) pgs_nil))))
      (pss_cons (ps_if (PW.pt (pw_or (pt_not (pt_val (pe_call G_good (hr.mono (by decide)) (by rfl) T.g_good T.F_good.kp T.b_good .nil pass0 (pa_cons (pv 3) (pa_cons (pv 4) pa_nil))))) (pw_or (pt_not (pt_val (pe_call G_good (hr.mono (by decide)) (by rfl) T.g_good T.F_good.kp T.b_good .nil pass0 (pa_cons (pv 4) (pa_cons (pv 3) pa_nil))))) (pw_or1 (pt_not (pt_val (pe_call G_good (hr.mono (by decide)) (by rfl) T.g_good T.F_good.kp T.b_good .nil pass0 (pa_cons (pv 4) (pa_cons (pv 4) pa_nil)))))))))
      (pss_one (ps_ret pe_bl)) pss_nil)
      (pss_one (ps_if (PW.pt (pw_or (pt_not (pt_val (pe_call G_good (hr.mono (by decide)) (by rfl) T.g_good T.F_good.kp T.b_good .nil pass0 (pa_cons (pe_op op_mul_str pe_str (pe_callB call_len_str (by rfl) T.z_len PySem.boot_len (pa_cons (pv 4) pa_nil))) (pa_cons (pv 4) pa_nil))))) (pw_or1 (pt_not (pt_val (pe_call G_good (hr.mono (by decide)) (by rfl) T.g_good T.F_good.kp T.b_good .nil pass0 (pa_cons (pv 4) (pa_cons (pe_op op_mul_str pe_str (pe_callB call_len_str (by rfl) T.z_len PySem.boot_len (pa_cons (pv 4) pa_nil))) pa_nil))))))))
      (pss_one (ps_ret pe_bl)) pss_nil))))))
      (pss_one (ps_ret pe_bl))), ?_⟩
    refine ⟨_, rfl, _, _, rfl, .inl hS, _, _, rfl, _, _, rfl, _, rfl, ?_, ?_, for_range (fun i σ H' => ∃ y1 y2 y3 y4, σ = [some (.ref a), y1, y2, y3, y4] ∧ Same H H') ⟨none, none, none, none, rfl, Same.refl H⟩ ?_ ?_⟩
    · rw [List.length_map]
      split <;> split <;> omega
    · rw [List.length_map]
      split <;> split <;> omega
    · rintro i σ H1 hi ⟨y1, y2, y3, y4, rfl, sm⟩
      have hi8 : i < 8 := by
        rw [List.length_map] at hi
        revert hi
        split <;> split <;> omega
      refine ⟨_, rfl, _, rfl, a, ns, _, rfl, sm.seq hS, by omega, by omega, fun b g s hb g0 s0 s1 => ?_⟩
      refine ⟨_, rfl, b, rfl, BagAt.new g0 s0 s1, fun p ab l H2 np bx el l8 l64 ra rl hp => ?_⟩
      have s12 : Same H1 H2 := bx.back (same_new hb) hb
      refine ⟨p, _, rfl, SqL.of hp, rfl, _, _, rfl, _, _, rfl, rfl, ?_⟩
      have hlz : (sOf l).length ≤ sizeLine := by
        rw [sOf_len]
        exact sz (by omega)
      refine ⟨_, rfl, _, rfl, ab, l, rfl, el, by omega, l64, ra, rl, fun H3 s3 => ⟨_, rfl, ?_⟩⟩
      refine ⟨_, rfl, _, rfl, l, ab, rfl, el.symm, by omega, by omega, rl, ra, fun H4 s4 => ⟨_, rfl, ?_⟩⟩
      refine ⟨_, rfl, _, rfl, l, l, rfl, rfl, by omega, by omega, rl, rl, fun H5 s5 => ⟨_, rfl, ?_⟩⟩
      refine ⟨_, rfl, _, rfl, hlz, 46, _, rfl, rfl, ⟨by rw [sOf_len]; omega, by rw [sOf_len]; omega⟩, _, rfl, List.replicate l.length 46, l, (by rw [sOf_len]; rfl), List.length_replicate, by omega, by omega, Row.rep (.inl rfl), rl, fun H6 s6 => ⟨_, rfl, ?_⟩⟩
      refine ⟨_, rfl, _, rfl, _, rfl, hlz, 35, _, rfl, rfl, ⟨by rw [sOf_len]; omega, by rw [sOf_len]; omega⟩, l, List.replicate l.length 35, (by rw [sOf_len]; rfl), List.length_replicate.symm, by rw [List.length_replicate]; omega, by rw [List.length_replicate]; omega, rl, Row.rep (.inr rfl), fun H7 s7 => ⟨_, rfl, ?_⟩⟩
      exact ⟨_, _, _, _, rfl, sm.trans (s12.trans (((((s3.trans s4).trans s5).trans s6).trans s7)))⟩
    · rintro σ H1 ⟨y1, y2, y3, y4, rfl, sm⟩
      exact q _
end
theorem all_mk {l : PySem.W.OpenLaw} {w : World} {K : PySem.W.Frag} {h : Heap} {mg : Str → Option Value} {fa : Addr} (X : K.In h) (G : h.Ns mainGlobals mg) (hfa : mg "law" = some (.ref fa))
    {f0 f1 f2 f3 f4 f5 f6 f7 f8 f9 f10 f11 f12 f13 f14 f15 f16 f17 : Addr}
    {od0 an0 od1 an1 od2 an2 od3 an3 od4 an4 od5 an5 od6 an6 od7 an7 od8 an8 od9 an9 od10 an10 od11 an11 od12 an12 od13 an13 od14 an14 od15 an15 od16 an16 od17 an17 : Option Addr}
    {sl0 sl1 sl2 sl3 sl4 sl5 sl6 sl7 sl8 sl9 sl10 sl11 sl12 sl13 sl14 sl15 sl16 sl17 : Array (Option Value)}
    {oc0 kV0 dc0 pm0 ct0 cd0 oc1 kV1 dc1 pm1 ct1 cd1 oc2 kV2 dc2 pm2 ct2 cd2 oc3 kV3 dc3 pm3 ct3 cd3 oc4 kV4 dc4 pm4 ct4 cd4 oc5 kV5 dc5 pm5 ct5 cd5 oc6 kV6 dc6 pm6 ct6 cd6 oc7 kV7 dc7 pm7 ct7 cd7 oc8 kV8 dc8 pm8 ct8 cd8 oc9 kV9 dc9 pm9 ct9 cd9 oc10 kV10 dc10 pm10 ct10 cd10 oc11 kV11 dc11 pm11 ct11 cd11 oc12 kV12 dc12 pm12 ct12 cd12 oc13 kV13 dc13 pm13 ct13 cd13 oc14 kV14 dc14 pm14 ct14 cd14 oc15 kV15 dc15 pm15 ct15 cd15 oc16 kV16 dc16 pm16 ct16 cd16 oc17 kV17 dc17 pm17 ct17 cd17 : Value}
    {t_AHEAD : Tok}
    {t_DARK : Tok}
    {t_LIGHT : Tok}
    {t_MOST_NEAR : Tok}
    (a0 : PySem.W.nsIn K mainGlobals "first_place" = some (some (.ref f0))) (l0 : K.lookup f0 = some ⟨oc0, od0, .func (PySem.W.fnOf "first_place" "first_place" (defArgs s_first_place) (defBody s_first_place) (defScope s_first_place) .none kV0 dc0 pm0 an0 cd0 ct0), sl0⟩) (c0 : PySem.W.codeIn K cd0 "first_place" = true) (k0 : PySem.W.keepIn K (.ref f0) = true)
    (a1 : PySem.W.nsIn K mainGlobals "other_cell" = some (some (.ref f1))) (l1 : K.lookup f1 = some ⟨oc1, od1, .func (PySem.W.fnOf "other_cell" "other_cell" (defArgs s_other_cell) (defBody s_other_cell) (defScope s_other_cell) .none kV1 dc1 pm1 an1 cd1 ct1), sl1⟩) (c1 : PySem.W.codeIn K cd1 "other_cell" = true) (k1 : PySem.W.keepIn K (.ref f1) = true)
    (a2 : PySem.W.nsIn K mainGlobals "above_steps" = some (some (.ref f2))) (l2 : K.lookup f2 = some ⟨oc2, od2, .func (PySem.W.fnOf "above_steps" "above_steps" (defArgs s_above_steps) (defBody s_above_steps) (defScope s_above_steps) .none kV2 dc2 pm2 an2 cd2 ct2), sl2⟩) (c2 : PySem.W.codeIn K cd2 "above_steps" = true) (k2 : PySem.W.keepIn K (.ref f2) = true)
    (a3 : PySem.W.nsIn K mainGlobals "step_at" = some (some (.ref f3))) (l3 : K.lookup f3 = some ⟨oc3, od3, .func (PySem.W.fnOf "step_at" "step_at" (defArgs s_step_at) (defBody s_step_at) (defScope s_step_at) .none kV3 dc3 pm3 an3 cd3 ct3), sl3⟩) (c3 : PySem.W.codeIn K cd3 "step_at" = true) (k3 : PySem.W.keepIn K (.ref f3) = true)
    (a4 : PySem.W.nsIn K mainGlobals "first_change" = some (some (.ref f4))) (l4 : K.lookup f4 = some ⟨oc4, od4, .func (PySem.W.fnOf "first_change" "first_change" (defArgs s_first_change) (defBody s_first_change) (defScope s_first_change) .none kV4 dc4 pm4 an4 cd4 ct4), sl4⟩) (c4 : PySem.W.codeIn K cd4 "first_change" = true) (k4 : PySem.W.keepIn K (.ref f4) = true)
    (a5 : PySem.W.nsIn K mainGlobals "led_to" = some (some (.ref f5))) (l5 : K.lookup f5 = some ⟨oc5, od5, .func (PySem.W.fnOf "led_to" "led_to" (defArgs s_led_to) (defBody s_led_to) (defScope s_led_to) .none kV5 dc5 pm5 an5 cd5 ct5), sl5⟩) (c5 : PySem.W.codeIn K cd5 "led_to" = true) (k5 : PySem.W.keepIn K (.ref f5) = true)
    (a6 : PySem.W.nsIn K mainGlobals "colour_behind" = some (some (.ref f6))) (l6 : K.lookup f6 = some ⟨oc6, od6, .func (PySem.W.fnOf "colour_behind" "colour_behind" (defArgs s_colour_behind) (defBody s_colour_behind) (defScope s_colour_behind) .none kV6 dc6 pm6 an6 cd6 ct6), sl6⟩) (c6 : PySem.W.codeIn K cd6 "colour_behind" = true) (k6 : PySem.W.keepIn K (.ref f6) = true)
    (a7 : PySem.W.nsIn K mainGlobals "_law_bag" = some (some (.ref f7))) (l7 : K.lookup f7 = some ⟨oc7, od7, .func (PySem.W.fnOf "_law_bag" "_law_bag" (defArgs s_bag) (defBody s_bag) (defScope s_bag) .none kV7 dc7 pm7 an7 cd7 ct7), sl7⟩) (c7 : PySem.W.codeIn K cd7 "_law_bag" = true) (k7 : PySem.W.keepIn K (.ref f7) = true)
    (a8 : PySem.W.nsIn K mainGlobals "_law_draw" = some (some (.ref f8))) (l8 : K.lookup f8 = some ⟨oc8, od8, .func (PySem.W.fnOf "_law_draw" "_law_draw" (defArgs s_draw) (defBody s_draw) (defScope s_draw) .none kV8 dc8 pm8 an8 cd8 ct8), sl8⟩) (c8 : PySem.W.codeIn K cd8 "_law_draw" = true) (k8 : PySem.W.keepIn K (.ref f8) = true)
    (a9 : PySem.W.nsIn K mainGlobals "_law_row" = some (some (.ref f9))) (l9 : K.lookup f9 = some ⟨oc9, od9, .func (PySem.W.fnOf "_law_row" "_law_row" (defArgs s_row) (defBody s_row) (defScope s_row) .none kV9 dc9 pm9 an9 cd9 ct9), sl9⟩) (c9 : PySem.W.codeIn K cd9 "_law_row" = true) (k9 : PySem.W.keepIn K (.ref f9) = true)
    (a10 : PySem.W.nsIn K mainGlobals "_law_pair" = some (some (.ref f10))) (l10 : K.lookup f10 = some ⟨oc10, od10, .func (PySem.W.fnOf "_law_pair" "_law_pair" (defArgs s_pair) (defBody s_pair) (defScope s_pair) .none kV10 dc10 pm10 an10 cd10 ct10), sl10⟩) (c10 : PySem.W.codeIn K cd10 "_law_pair" = true) (k10 : PySem.W.keepIn K (.ref f10) = true)
    (a11 : PySem.W.nsIn K mainGlobals "_law_whole" = some (some (.ref f11))) (l11 : K.lookup f11 = some ⟨oc11, od11, .func (PySem.W.fnOf "_law_whole" "_law_whole" (defArgs s_whole) (defBody s_whole) (defScope s_whole) .none kV11 dc11 pm11 an11 cd11 ct11), sl11⟩) (c11 : PySem.W.codeIn K cd11 "_law_whole" = true) (k11 : PySem.W.keepIn K (.ref f11) = true)
    (a12 : PySem.W.nsIn K mainGlobals "_law_own" = some (some (.ref f12))) (l12 : K.lookup f12 = some ⟨oc12, od12, .func (PySem.W.fnOf "_law_own" "_law_own" (defArgs s_own) (defBody s_own) (defScope s_own) .none kV12 dc12 pm12 an12 cd12 ct12), sl12⟩) (c12 : PySem.W.codeIn K cd12 "_law_own" = true) (k12 : PySem.W.keepIn K (.ref f12) = true)
    (a13 : PySem.W.nsIn K mainGlobals "_law_far" = some (some (.ref f13))) (l13 : K.lookup f13 = some ⟨oc13, od13, .func (PySem.W.fnOf "_law_far" "_law_far" (defArgs s_far) (defBody s_far) (defScope s_far) .none kV13 dc13 pm13 an13 cd13 ct13), sl13⟩) (c13 : PySem.W.codeIn K cd13 "_law_far" = true) (k13 : PySem.W.keepIn K (.ref f13) = true)
    (a14 : PySem.W.nsIn K mainGlobals "_law_back" = some (some (.ref f14))) (l14 : K.lookup f14 = some ⟨oc14, od14, .func (PySem.W.fnOf "_law_back" "_law_back" (defArgs s_back) (defBody s_back) (defScope s_back) .none kV14 dc14 pm14 an14 cd14 ct14), sl14⟩) (c14 : PySem.W.codeIn K cd14 "_law_back" = true) (k14 : PySem.W.keepIn K (.ref f14) = true)
    (a15 : PySem.W.nsIn K mainGlobals "_law_steps" = some (some (.ref f15))) (l15 : K.lookup f15 = some ⟨oc15, od15, .func (PySem.W.fnOf "_law_steps" "_law_steps" (defArgs s_steps) (defBody s_steps) (defScope s_steps) .none kV15 dc15 pm15 an15 cd15 ct15), sl15⟩) (c15 : PySem.W.codeIn K cd15 "_law_steps" = true) (k15 : PySem.W.keepIn K (.ref f15) = true)
    (a16 : PySem.W.nsIn K mainGlobals "_law_good" = some (some (.ref f16))) (l16 : K.lookup f16 = some ⟨oc16, od16, .func (PySem.W.fnOf "_law_good" "_law_good" (defArgs s_good) (defBody s_good) (defScope s_good) .none kV16 dc16 pm16 an16 cd16 ct16), sl16⟩) (c16 : PySem.W.codeIn K cd16 "_law_good" = true) (k16 : PySem.W.keepIn K (.ref f16) = true)
    (a17 : PySem.W.nsIn K mainGlobals "law" = some (some (.ref f17))) (l17 : K.lookup f17 = some ⟨oc17, od17, .func (PySem.W.fnOf "law" "law" (defArgs s_law) (defBody s_law) (defScope s_law) .none kV17 dc17 pm17 an17 cd17 ct17), sl17⟩) (c17 : PySem.W.codeIn K cd17 "law" = true) (k17 : PySem.W.keepIn K (.ref f17) = true)
    (z_abs : PySem.W.nsIn K mainGlobals "abs" = some none)
    (z_all : PySem.W.nsIn K mainGlobals "all" = some none)
    (z_bool : PySem.W.nsIn K mainGlobals "bool" = some none)
    (z_int : PySem.W.nsIn K mainGlobals "int" = some none)
    (z_isinstance : PySem.W.nsIn K mainGlobals "isinstance" = some none)
    (z_len : PySem.W.nsIn K mainGlobals "len" = some none)
    (z_list : PySem.W.nsIn K mainGlobals "list" = some none)
    (z_max : PySem.W.nsIn K mainGlobals "max" = some none)
    (z_min : PySem.W.nsIn K mainGlobals "min" = some none)
    (z_range : PySem.W.nsIn K mainGlobals "range" = some none)
    (m_AHEAD : PySem.W.nsIn K mainGlobals "AHEAD" = some (some (.int (-1) t_AHEAD)))
    (m_DARK : PySem.W.nsIn K mainGlobals "DARK" = some (some (.str "#" t_DARK)))
    (m_LIGHT : PySem.W.nsIn K mainGlobals "LIGHT" = some (some (.str "." t_LIGHT)))
    (m_MOST_NEAR : PySem.W.nsIn K mainGlobals "MOST_NEAR" = some (some (.int (3) t_MOST_NEAR)))
    : ∃ fd : FuncData, (∀ (s : Shared) (v : Value), BindsTo s fd ⟨[v], []⟩ [("_law_script", v)]) ∧ ∀ base : Heap, K.In base → base.Ns mainGlobals mg → FnOk l.prog w K mg base CX0 6 fa fd ["_law_script"] (spLaw K) := by
  have e := hfa.symm.trans (PySem.W.mg_of X G a17)
  cases e
  have F0 := fun_mk (st := s_first_place) l0 c0 k0
  have b0 := F0.binds (ps := P_first_place) fun _ _ _ _ _ _ us hl => match us, hl with | [_, _, _], _ => rfl
  have F1 := fun_mk (st := s_other_cell) l1 c1 k1
  have b1 := F1.binds (ps := P_other_cell) fun _ _ _ _ _ _ us hl => match us, hl with | [_], _ => rfl
  have F2 := fun_mk (st := s_above_steps) l2 c2 k2
  have b2 := F2.binds (ps := P_above_steps) fun _ _ _ _ _ _ us hl => match us, hl with | [_, _], _ => rfl
  have F3 := fun_mk (st := s_step_at) l3 c3 k3
  have b3 := F3.binds (ps := P_step_at) fun _ _ _ _ _ _ us hl => match us, hl with | [_, _, _, _], _ => rfl
  have F4 := fun_mk (st := s_first_change) l4 c4 k4
  have b4 := F4.binds (ps := P_first_change) fun _ _ _ _ _ _ us hl => match us, hl with | [_, _, _], _ => rfl
  have F5 := fun_mk (st := s_led_to) l5 c5 k5
  have b5 := F5.binds (ps := P_led_to) fun _ _ _ _ _ _ us hl => match us, hl with | [_, _, _, _], _ => rfl
  have F6 := fun_mk (st := s_colour_behind) l6 c6 k6
  have b6 := F6.binds (ps := P_colour_behind) fun _ _ _ _ _ _ us hl => match us, hl with | [_, _], _ => rfl
  have F7 := fun_mk (st := s_bag) l7 c7 k7
  have b7 := F7.binds (ps := P_bag) fun _ _ _ _ _ _ us hl => match us, hl with | [_, _], _ => rfl
  have F8 := fun_mk (st := s_draw) l8 c8 k8
  have b8 := F8.binds (ps := P_draw) fun _ _ _ _ _ _ us hl => match us, hl with | [_, _], _ => rfl
  have F9 := fun_mk (st := s_row) l9 c9 k9
  have b9 := F9.binds (ps := P_row) fun _ _ _ _ _ _ us hl => match us, hl with | [_, _, _], _ => rfl
  have F10 := fun_mk (st := s_pair) l10 c10 k10
  have b10 := F10.binds (ps := P_pair) fun _ _ _ _ _ _ us hl => match us, hl with | [_], _ => rfl
  have F11 := fun_mk (st := s_whole) l11 c11 k11
  have b11 := F11.binds (ps := P_whole) fun _ _ _ _ _ _ us hl => match us, hl with | [_], _ => rfl
  have F12 := fun_mk (st := s_own) l12 c12 k12
  have b12 := F12.binds (ps := P_own) fun _ _ _ _ _ _ us hl => match us, hl with | [_, _, _], _ => rfl
  have F13 := fun_mk (st := s_far) l13 c13 k13
  have b13 := F13.binds (ps := P_far) fun _ _ _ _ _ _ us hl => match us, hl with | [_, _, _], _ => rfl
  have F14 := fun_mk (st := s_back) l14 c14 k14
  have b14 := F14.binds (ps := P_back) fun _ _ _ _ _ _ us hl => match us, hl with | [_, _, _], _ => rfl
  have F15 := fun_mk (st := s_steps) l15 c15 k15
  have b15 := F15.binds (ps := P_steps) fun _ _ _ _ _ _ us hl => match us, hl with | [_, _], _ => rfl
  have F16 := fun_mk (st := s_good) l16 c16 k16
  have b16 := F16.binds (ps := P_good) fun _ _ _ _ _ _ us hl => match us, hl with | [_, _], _ => rfl
  have F17 := fun_mk (st := s_law) l17 c17 k17
  exact ⟨_, fun s v => .of_eq rfl, fun base _ _ => ok_law (A := ⟨f0, _, f1, _, f2, _, f3, _, f4, _, f5, _, f6, _, f7, _, f8, _, f9, _, f10, _, f11, _, f12, _, f13, _, f14, _, f15, _, f16, _, fa, _, t_AHEAD, t_DARK, t_LIGHT, t_MOST_NEAR⟩) ⟨F0, b0, PySem.W.mg_of X G a0, F1, b1, PySem.W.mg_of X G a1, F2, b2, PySem.W.mg_of X G a2, F3, b3, PySem.W.mg_of X G a3, F4, b4, PySem.W.mg_of X G a4, F5, b5, PySem.W.mg_of X G a5, F6, b6, PySem.W.mg_of X G a6, F7, b7, PySem.W.mg_of X G a7, F8, b8, PySem.W.mg_of X G a8, F9, b9, PySem.W.mg_of X G a9, F10, b10, PySem.W.mg_of X G a10, F11, b11, PySem.W.mg_of X G a11, F12, b12, PySem.W.mg_of X G a12, F13, b13, PySem.W.mg_of X G a13, F14, b14, PySem.W.mg_of X G a14, F15, b15, PySem.W.mg_of X G a15, F16, b16, PySem.W.mg_of X G a16, F17, PySem.W.mg_of X G a17, PySem.W.mg_none_of X G z_abs, PySem.W.mg_none_of X G z_all, PySem.W.mg_none_of X G z_bool, PySem.W.mg_none_of X G z_int, PySem.W.mg_none_of X G z_isinstance, PySem.W.mg_none_of X G z_len, PySem.W.mg_none_of X G z_list, PySem.W.mg_none_of X G z_max, PySem.W.mg_none_of X G z_min, PySem.W.mg_none_of X G z_range, PySem.W.mg_of X G m_AHEAD, PySem.W.mg_of X G m_DARK, PySem.W.mg_of X G m_LIGHT, PySem.W.mg_of X G m_MOST_NEAR⟩⟩
end K12
open PySem PySem.W PyProof.Rows
set_option maxHeartbeats 0 in
theorem PySem.Challenge.cw_farpage_k12_steps_by_the_row_above_holds : PySem.Challenge.rw_farpage_k12_steps_by_the_row_above.Holds := by
  w_on; o_law; k_head; (case hw => w_witness2)
  k_fill
  refine L2.walk_of (l := PySem.Challenge.rw_farpage_k12_steps_by_the_row_above) (n := 63) (k := 6) (x := "_law_script") (CX := fun _ => L2.CX0) (sp := fun w => K12.spLaw _) rfl (by decide) rfl ⟨rfl, by decide, by decide⟩ (fun w h Y => PySem.W.kIn_of Y) ?F (fun _ _ a ns hl _ hS => ⟨a, ns, rfl, hS, hl, fun _ => rfl⟩) (fun _ _ _ _ _ h => h)
  case F =>
    intro w mg fa h KX G hmg
    refine' K12.all_mk KX G hmg ?a0 ?l0 ?c0 ?k0 ?a1 ?l1 ?c1 ?k1 ?a2 ?l2 ?c2 ?k2 ?a3 ?l3 ?c3 ?k3 ?a4 ?l4 ?c4 ?k4 ?a5 ?l5 ?c5 ?k5 ?a6 ?l6 ?c6 ?k6 ?a7 ?l7 ?c7 ?k7 ?a8 ?l8 ?c8 ?k8 ?a9 ?l9 ?c9 ?k9 ?a10 ?l10 ?c10 ?k10 ?a11 ?l11 ?c11 ?k11 ?a12 ?l12 ?c12 ?k12 ?a13 ?l13 ?c13 ?k13 ?a14 ?l14 ?c14 ?k14 ?a15 ?l15 ?c15 ?k15 ?a16 ?l16 ?c16 ?k16 ?a17 ?l17 ?c17 ?k17 ?z_abs ?z_all ?z_bool ?z_int ?z_isinstance ?z_len ?z_list ?z_max ?z_min ?z_range ?m_AHEAD ?m_DARK ?m_LIGHT ?m_MOST_NEAR
    (case a0 => k_is)
    (case l0 => k_is)
    (case c0 => k_is)
    (case k0 => k_is)
    (case a1 => k_is)
    (case l1 => k_is)
    (case c1 => k_is)
    (case k1 => k_is)
    (case a2 => k_is)
    (case l2 => k_is)
    (case c2 => k_is)
    (case k2 => k_is)
    (case a3 => k_is)
    (case l3 => k_is)
    (case c3 => k_is)
    (case k3 => k_is)
    (case a4 => k_is)
    (case l4 => k_is)
    (case c4 => k_is)
    (case k4 => k_is)
    (case a5 => k_is)
    (case l5 => k_is)
    (case c5 => k_is)
    (case k5 => k_is)
    (case a6 => k_is)
    (case l6 => k_is)
    (case c6 => k_is)
    (case k6 => k_is)
    (case a7 => k_is)
    (case l7 => k_is)
    (case c7 => k_is)
    (case k7 => k_is)
    (case a8 => k_is)
    (case l8 => k_is)
    (case c8 => k_is)
    (case k8 => k_is)
    (case a9 => k_is)
    (case l9 => k_is)
    (case c9 => k_is)
    (case k9 => k_is)
    (case a10 => k_is)
    (case l10 => k_is)
    (case c10 => k_is)
    (case k10 => k_is)
    (case a11 => k_is)
    (case l11 => k_is)
    (case c11 => k_is)
    (case k11 => k_is)
    (case a12 => k_is)
    (case l12 => k_is)
    (case c12 => k_is)
    (case k12 => k_is)
    (case a13 => k_is)
    (case l13 => k_is)
    (case c13 => k_is)
    (case k13 => k_is)
    (case a14 => k_is)
    (case l14 => k_is)
    (case c14 => k_is)
    (case k14 => k_is)
    (case a15 => k_is)
    (case l15 => k_is)
    (case c15 => k_is)
    (case k15 => k_is)
    (case a16 => k_is)
    (case l16 => k_is)
    (case c16 => k_is)
    (case k16 => k_is)
    (case a17 => k_is)
    (case l17 => k_is)
    (case c17 => k_is)
    (case k17 => k_is)
    (case z_abs => k_is)
    (case z_all => k_is)
    (case z_bool => k_is)
    (case z_int => k_is)
    (case z_isinstance => k_is)
    (case z_len => k_is)
    (case z_list => k_is)
    (case z_max => k_is)
    (case z_min => k_is)
    (case z_range => k_is)
    (case m_AHEAD => k_is)
    (case m_DARK => k_is)
    (case m_LIGHT => k_is)
    (case m_MOST_NEAR => k_is)
