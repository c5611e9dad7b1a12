import PyProof.Rows.All
import Wide.All
import OpenK.AllK
import Wide.FinOn
import HandS.ForMost
import HandS.IsInst
import HandS.StrMore
import HandS.Codes
import HandS.Evl
import HandS.TupAny
import HandS.TupMul
import HandS.Walk
import PyProof.Rows.StrJoinRep
import HandS.More
import PySem.Challenge.RW_farpage_k08_runs_of_rows
set_option Elab.async false
set_option linter.all false
set_option maxRecDepth 100000
set_option maxHeartbeats 4000000
/-! Rules of our own over the hand layer: a sign times an int, list(text), ljust with a sign. -/
namespace Fp
open PySem L2 PyProof.Rows
/-- a text by its codes -/
def sOf (l : List Nat) : Str := ⟨l.toArray⟩
theorem sOf_list (l : List Nat) : (sOf l).cps.toList = l := by simp [sOf]
theorem sOf_len (l : List Nat) : (sOf l).length = l.length := by simp [sOf, Str.length]
theorem of_list {z : Str} {l : List Nat} (h : z.cps.toList = l) : z = sOf l := str_of_list (by rw [h, sOf_list])
theorem sOf_inj {l m : List Nat} (h : sOf l = sOf m) : l = m := by
  have := congrArg (fun z => z.cps.toList) h
  simpa [sOf] using this
theorem sOf_app (l m : List Nat) : sOf l ++ sOf m = sOf (l ++ m) := by
  apply of_list
  show ((sOf l) ++ (sOf m)).cps.toList = l ++ m
  rw [show ((sOf l) ++ (sOf m)).cps = (sOf l).cps ++ (sOf m).cps from rfl]
  simp [sOf]
section
variable {X : Cx}
theorem op_mul_str : OpR X (binaryOp .Mult) (fun x y H Q => ∃ c n, x = .str (sOf [c]) ∧ y = .int n ∧ (-100000 ≤ n ∧ n ≤ 100000) ∧ Q (.str (sOf (List.replicate n.toNat c))) H) := by
  intro pins s σ H x y v u Q I rx ry h
  obtain ⟨c, n, rfl, rfl, hz, q⟩ := h
  obtain ⟨t, rfl⟩ := rx
  obtain ⟨t', rfl⟩ := ry
  refine SB.mul (mulOk_of 1 100000 (by rw [sOf_len]; exact Nat.le_refl _) (by omega) (by omega) (by decide) (by decide)) fun t' k => ?_
  have e : Txt.mul (sOf [c]) n = sOf (List.replicate n.toNat c) := of_list (mul_one_list c n)
  rw [e]
  exact ⟨.str (sOf (List.replicate n.toNat c)), H, I.tok _, ⟨_, rfl⟩, q⟩
theorem padOk {i : Int} (h0 : 0 ≤ i) (h1 : i ≤ 100000) : PadOk i = true := padOk_of (by omega) (by omega)
theorem mt_ljustF : MtR X "str.ljust" (fun x xs H Q => ∃ (l : List Nat) (i : Int) (c : Nat), x = .str (sOf l) ∧ xs = [.int i, .str (sOf [c])] ∧ (0 ≤ i ∧ i ≤ 100000) ∧ Q (.str (sOf (l ++ List.replicate (i.toNat - l.length) c))) H) := by
  intro pins s σ H x xs v us Q I rx rs h
  obtain ⟨l, i, c, rfl, rfl, hz, q⟩ := h
  obtain ⟨t, rfl⟩ := rx
  obtain ⟨u, w', rfl, ⟨t', rfl⟩, ⟨t'', rfl⟩⟩ := vals2 rs
  refine ljust_fill (padOk hz.1 hz.2) (sOf_len _) fun t' k => ?_
  have e : Txt.ljustF (sOf l) i ((sOf [c]).cps.getD 0 0) = sOf (l ++ List.replicate (i.toNat - l.length) c) := of_list (by
    rw [ljustF_list, sOf_list, sOf_len]
    rfl)
  rw [e]
  exact ⟨.str (sOf (l ++ List.replicate (i.toNat - l.length) c)), H, I.tok _, ⟨_, rfl⟩, q⟩
theorem vals_signs {acc : List Value} {l : List Nat} (h1 : acc.length = l.length) (h2 : ∀ (j : Nat) v, acc[j]? = some v → ∃ c u, l[j]? = some c ∧ v = .str ⟨#[c]⟩ u) : Vals (l.map fun c => V.str (sOf [c])) acc := by
  induction l generalizing acc with
  | nil =>
    cases acc with
    | nil => exact .nil
    | cons a r => simp at h1
  | cons c r ih =>
    cases acc with
    | nil => simp at h1
    | cons a b =>
      obtain ⟨c', u, e, rfl⟩ := h2 0 a rfl
      have e2 : c' = c := by simpa using e.symm
      subst e2
      exact .cons ⟨u, rfl⟩ (ih (by simpa using h1) fun j v hj => h2 (j + 1) v hj)
theorem call_list_str (hc : X.calm = true) : CallR X (.type "list") (fun xs H Q => ∃ z : List Nat, xs = [.str (sOf z)] ∧ z.length ≤ 100000 ∧ ∀ l, H l = none → Q (.ref l) (upd H l (.lst (z.map fun c => V.str (sOf [c]))))) := by
  intro pins s σ H xs us Q I r h
  obtain ⟨z, rfl, hz, q⟩ := h
  obtain ⟨u, rfl, t, rfl⟩ := vals1 r
  have hl : z.length ≤ sizeLine := Nat.le_trans hz (by decide)
  refine PySem.call_list_str (I.ok.hd hc) (sOf z) t (hn := by show (sOf z).length ≤ sizeLine; rw [sOf_len]; exact hl) fun h' tk acc' c' hk hS' hacc => ?_
  have r' : Vals (z.map fun c => V.str (sOf [c])) acc'.toList := vals_signs (by have := hacc.1; simpa [sOf] using this) fun j v hj => by
    obtain ⟨c, u, e, rfl⟩ := hacc.2 j v (by simpa using hj)
    exact ⟨c, u, by simpa [sOf] using e, rfl⟩
  exact ⟨.ref s.heap.objs.size, _, I.laid (t' := tk) hk (Nat.le_refl _) (show ObjOk X.prog X.w _ h' _ (.lst _) from ⟨by rw [List.length_map]; exact hl, acc'.toList, c', r', by simpa using hS'⟩), rfl, q _ (I.hok.fresh (Nat.le_refl _))⟩
end
/-! ### heaps -/
theorem same_new {H : Hp} {p : Addr} {o : HO} (h : H p = none) : Same H (upd H p o) := fun b x e => by
  rw [upd_ne (ne_of_none e h)]
  exact e
/-- what is new may change -/
theorem Same.mut {H H' : Hp} {p : Addr} {o : HO} (e : Same H H') (h : H p = none) : Same H (upd H' p o) := fun b x hb => by
  rw [upd_ne (ne_of_none hb h)]
  exact e b x hb
/-- a bag of the laws' draws -/
def BagAt (H : Hp) (b : Addr) : Prop := ∃ g s : Int, H b = some (.lst [.int g, .int s]) ∧ 0 ≤ g ∧ 0 ≤ s ∧ s < 1000000000000
/-- the bag has turned, what else stood stands -/
def Bx (b : Addr) (H H' : Hp) : Prop := BagAt H' b ∧ ∀ a o, a ≠ b → H a = some o → H' a = some o
theorem Bx.refl {b : Addr} {H : Hp} (h : BagAt H b) : Bx b H H := ⟨h, fun _ _ _ e => e⟩
theorem Bx.trans {b : Addr} {H H1 H2 : Hp} (x : Bx b H H1) (y : Bx b H1 H2) : Bx b H H2 := ⟨y.1, fun a o n e => y.2 a o n (x.2 a o n e)⟩
theorem Bx.drawn {b : Addr} {H : Hp} {g s : Int} (g0 : 0 ≤ g) (s0 : 0 ≤ s) (s1 : s < 1000000000000) : Bx b H (upd H b (.lst [.int g, .int s])) := ⟨⟨g, s, upd_same, g0, s0, s1⟩, fun a o n e => by
  rw [upd_ne n]
  exact e⟩
theorem Bx.same {b : Addr} {H H1 H2 : Hp} (x : Bx b H H1) (y : Same H1 H2) : Bx b H H2 := by
  obtain ⟨⟨g, s, h, r⟩, k⟩ := x
  exact ⟨⟨g, s, y _ _ h, r⟩, fun a o n e => y _ _ (k a o n e)⟩
/-- from before the bag was made -/
theorem Bx.back {b : Addr} {H0 H H' : Hp} (x : Bx b H H') (y : Same H0 H) (n : H0 b = none) : Same H0 H' := fun a o e => x.2 a o (ne_of_none e n) (y a o e)
theorem Bx.mut {b p : Addr} {H H' : Hp} {o : HO} (x : Bx b H H') (hp : H p = none) (n : p ≠ b) : Bx b H (upd H' p o) := by
  obtain ⟨⟨g, s, h, r⟩, k⟩ := x
  refine ⟨⟨g, s, by rw [upd_ne n.symm]; exact h, r⟩, fun a u m e => ?_⟩
  rw [upd_ne (ne_of_none e hp)]
  exact k a u m e
theorem Bx.free {b p : Addr} {H H' : Hp} (x : Bx b H H') (h : H' p = none) : H p = none := by
  have n : p ≠ b := by
    obtain ⟨g, s, e, _⟩ := x.1
    exact (ne_of_none e h).symm
  cases q : H p with
  | none => rfl
  | some o =>
    rw [x.2 p o n q] at h
    cases h
theorem BagAt.new {H : Hp} {p : Addr} {g s : Int} (g0 : 0 ≤ g) (s0 : 0 ≤ s) (s1 : s < 1000000000000) : BagAt (upd H p (.lst [.int g, .int s])) p := ⟨g, s, upd_same, g0, s0, s1⟩
theorem BagAt.ne {H : Hp} {b p : Addr} (h : BagAt H b) (n : H p = none) : p ≠ b := by
  obtain ⟨g, s, e, _⟩ := h
  exact (ne_of_none e n).symm
/-- a list's own address is no bag's where its items are texts -/
def cells (l : List Nat) : List V := l.map fun c => V.str (sOf [c])
theorem cells_len (l : List Nat) : (cells l).length = l.length := List.length_map ..
theorem cells_set (l : List Nat) (j c : Nat) : (cells l).set j (.str (sOf [c])) = cells (l.set j c) := by
  unfold cells
  rw [List.map_set]
theorem cells_app (l : List Nat) (c : Nat) : cells l ++ [.str (sOf [c])] = cells (l ++ [c]) := by
  unfold cells
  rw [List.map_append]
  rfl
/-- the cells of rows -/
def Cell (c : Nat) : Prop := c = 46 ∨ c = 35
def Row (l : List Nat) : Prop := ∀ c ∈ l, Cell c
theorem Row.set {l : List Nat} {j c : Nat} (h : Row l) (hc : Cell c) : Row (l.set j c) := fun x hx => by
  rcases List.mem_or_eq_of_mem_set hx with e | e
  · exact h x e
  · rw [e]
    exact hc
theorem Row.app {l : List Nat} {c : Nat} (h : Row l) (hc : Cell c) : Row (l ++ [c]) := fun x hx => by
  rcases List.mem_append.mp hx with e | e
  · exact h x e
  · rw [List.mem_singleton.mp e]
    exact hc
theorem Row.rep {n c : Nat} (hc : Cell c) : Row (List.replicate n c) := fun x hx => by
  rw [(List.mem_replicate.mp hx).2]
  exact hc
theorem Row.nil : Row [] := fun _ h => nomatch h
def cellN (i : Int) : Nat := if i = 0 then 46 else 35
theorem cellN_cell (i : Int) : Cell (cellN i) := by
  unfold cellN
  split
  · exact .inl rfl
  · exact .inr rfl
theorem cell_at {i : Int} (h0 : 0 ≤ i) (h1 : i < 2) : atI (Str.ofString ".#").cps.toList i = some (cellN i) := by
  have : i = 0 ∨ i = 1 := by omega
  rcases this with rfl | rfl <;> rfl
theorem two_len : (Str.ofString ".#").length ≤ sizeLine := by decide
theorem sz {n : Nat} (h : n ≤ 100000) : n ≤ sizeLine := Nat.le_trans h (by decide)
theorem szl {n : Nat} (h : n < 100000) : n < sizeLine := Nat.lt_of_lt_of_le h (by decide)
theorem sIx_nat' (n d a : Nat) : HT.sIx n d (some (a : Int)) = min a n := HT.sIx_nat n d a
theorem cutS_nat (l : List Nat) (a b : Nat) (ha : a ≤ l.length) (hb : b ≤ l.length) : cutS (sOf l) (some (a : Int)) (some (b : Int)) = sOf ((l.drop a).take (b - a)) := by
  unfold cutS
  rw [HT.sIx_nat, HT.sIx_nat, sOf_len, sOf_list, Nat.min_eq_left ha, Nat.min_eq_left hb]
  rfl
theorem take_more {α : Type} (l : List α) (i : Nat) (x : α) (h : l[i]? = some x) : l.take (i + 1) = l.take i ++ [x] := by
  rw [List.take_add_one, h]
  rfl
theorem range_more {α : Type} (f : Nat → α) (i : Nat) : (List.range (i + 1)).map f = (List.range i).map f ++ [f i] := by
  rw [List.range_succ, List.map_append]
  rfl
theorem join_cells : ∀ l : List Nat, Txt.join (Str.ofString "") (l.map fun c => sOf [c]) = sOf l := by
  intro l
  show Builtin.Str.glued (Str.ofString "") (l.map fun c => sOf [c]) = sOf l
  rw [StrLaws.glued_eq_join]
  induction l with
  | nil => rfl
  | cons c r ih =>
    cases r with
    | nil => rfl
    | cons d r =>
      show sOf [c] ++ Str.ofString "" ++ Str.join (Str.ofString "") (List.map (fun c => sOf [c]) (d :: r)) = sOf (c :: d :: r)
      rw [ih, show (Str.ofString "") = sOf [] from rfl, sOf_app, sOf_app]
      rfl
theorem cells_strs (l : List Nat) : cells l = (l.map fun c => sOf [c]).map V.str := by
  rw [List.map_map]
  rfl
theorem ones_sum (l : List Nat) : ((l.map fun c => sOf [c]).map (·.length)).sum = l.length := by
  induction l with
  | nil => rfl
  | cons c r ih =>
    rw [List.map_cons, List.map_cons, List.sum_cons, ih, sOf_len, List.length_cons]
    show 1 + r.length = r.length + 1
    omega
theorem join_size {l : List Nat} (h : l.length ≤ 100000) : ((l.map fun c => sOf [c]).map (·.length)).sum + (l.map fun c => sOf [c]).length * (Str.ofString "").length ≤ 16777216 := by
  rw [ones_sum, show (Str.ofString "").length = 0 from rfl]
  omega
theorem rep_one (n : Nat) (c : Nat) : (List.replicate n [V.str (sOf [c])]).flatten = cells (List.replicate n c) := by
  induction n with
  | zero => rfl
  | succ k ih =>
    rw [List.replicate_succ, List.flatten_cons, ih, List.replicate_succ]
    rfl

/-! ### lists and tuples of texts -/
def sV (l : List Nat) : V := .str (sOf l)
def sD (l : List Nat) : PyData := .str (sOf l)
theorem dp_rows {K : PySem.W.Frag} {H : Hp} : ∀ rows : List (List Nat), DpAll K H (rows.map sV) (rows.map sD)
  | [] => .nil
  | r :: rs => .cons (.str _) (dp_rows rs)
def Codes (l : List Nat) : Prop := ∀ c ∈ l, c < 128
theorem strOk_of {l : List Nat} (h : Codes l) : PyData.strOk (sOf l) = true := by
  unfold PyData.strOk sOf
  rw [Array.all_eq_true']
  intro c hc
  have h2 := h c (by simpa using hc)
  exact decide_eq_true (by omega)
theorem lay_rows : ∀ {rows : List (List Nat)}, (∀ r ∈ rows, Codes r) → PyData.canLayAll0 (rows.map sD) = true
  | [], _ => by simp [PyData.canLayAll0]
  | r :: rs, h => by
    have h1 : PyData.canLay0 (sD r) = true := by
      show PyData.canLay0 (.str (sOf r)) = true
      simp only [PyData.canLay0]
      exact strOk_of (h r (List.mem_cons_self ..))
    have h2 := lay_rows (rows := rs) fun x hx => h x (List.mem_cons_of_mem _ hx)
    simp only [List.map_cons, PyData.canLayAll0, h1, h2, Bool.and_true]
theorem depth_rows : ∀ rows : List (List Nat), PyData.depthAll (rows.map sD) = 0
  | [] => by simp [PyData.depthAll]
  | r :: rs => by
    have h := depth_rows rs
    simp only [List.map_cons, PyData.depthAll, h, sD, PyData.depth]
    rfl
theorem shaped_tup {rows : List (List Nat)} (h : ∀ r ∈ rows, Codes r) : SeqAt.shaped (.tuple (rows.map sD)) = true := by
  show (PyData.canLay0 (.tuple (rows.map sD)) && decide (PyData.depth (.tuple (rows.map sD)) ≤ 64)) = true
  rw [Bool.and_eq_true]
  refine ⟨by simp only [PyData.canLay0]; exact lay_rows h, decide_eq_true ?_⟩
  simp only [PyData.depth, depth_rows]
  omega
theorem shaped_lst {rows : List (List Nat)} (h : ∀ r ∈ rows, Codes r) : SeqAt.shaped (.list (rows.map sD)) = true := by
  show (PyData.canLay0 (.list (rows.map sD)) && decide (PyData.depth (.list (rows.map sD)) ≤ 64)) = true
  rw [Bool.and_eq_true]
  refine ⟨by simp only [PyData.canLay0]; exact lay_rows h, decide_eq_true ?_⟩
  simp only [PyData.depth, depth_rows]
  omega
theorem eqv_tup {rows : List (List Nat)} (h : ∀ r ∈ rows, Codes r) : PyData.eqv (.tuple (rows.map sD)) (.tuple (rows.map sD)) = true := SeqAt.eqv_refl _ (by simp only [PyData.canLay0]; exact lay_rows h)
theorem eqv_lst {rows : List (List Nat)} (h : ∀ r ∈ rows, Codes r) : PyData.eqv (.list (rows.map sD)) (.list (rows.map sD)) = true := SeqAt.eqv_refl _ (by simp only [PyData.canLay0]; exact lay_rows h)
theorem Row.codes {l : List Nat} (h : Row l) : Codes l := fun c hc => by
  rcases h c hc with e | e <;> rw [e] <;> decide
theorem same_t {K : PySem.W.Frag} {H H' : Hp} {a : Addr} {xs : List V} (e : Same H H') (h : SqT K H a xs) : SqT K H' a xs := Evl.ex_t e h
theorem cut1 (xs : List V) : cutV xs (some 1) none = xs.drop 1 := by
  unfold cutV
  rw [show HT.sIx xs.length 0 (some 1) = min 1 xs.length from HT.sIx_nat xs.length 0 1, HT.sIx_none]
  cases xs with
  | nil => rfl
  | cons x r =>
    rw [show min 1 (x :: r).length = 1 by
      rw [List.length_cons]
      omega]
    show (List.take ((x :: r).length - 1) r) = r
    rw [List.length_cons, Nat.add_sub_cancel]
    exact List.take_length

/-! ### tuples of any kind, texts times an int -/
section
variable {X : Cx}
theorem cutV_whole {xs : List V} {lo hi : Option Int} (h : HT.sIx xs.length 0 lo = 0 ∧ HT.sIx xs.length xs.length hi = xs.length) : cutV xs lo hi = xs := by
  unfold cutV
  rw [h.1, h.2]
  show (xs.drop 0).take (xs.length - 0) = xs
  rw [List.drop_zero, Nat.sub_zero, List.take_length]
theorem sl_tupW : SlR X (fun x lo hi H Q => ∃ a xs, x = .ref a ∧ H a = some (.tup xs) ∧ ∀ q H', Same H H' → H' q = some (.tup (cutV xs lo hi)) → Q (.ref q) H') := by
  intro pins s σ H x v vl vu lo hi sl Q I rx hs pl pu h
  obtain ⟨a, xs, rfl, hx, q⟩ := h
  refine sl_tupA pins s σ H _ v vl vu lo hi sl Q I rx hs pl pu ⟨a, xs, rfl, .inl (.inl hx), fun e => ?_, fun e p hp => ?_⟩
  · exact q a H (Same.refl H) (by rw [cutV_whole e]; exact hx)
  · exact q p _ (same_new hp) upd_same
theorem op_catW : OpR X (binaryOp .Add) (fun x y H Q => ∃ a b xs ys, x = .ref a ∧ y = .ref b ∧ H a = some (.tup xs) ∧ H b = some (.tup ys) ∧ xs.length + ys.length ≤ 100000 ∧ ∀ q H', Same H H' → H' q = some (.tup (xs ++ ys)) → Q (.ref q) H') := by
  intro pins s σ H x y v u Q I rx ry h
  obtain ⟨a, b, xs, ys, rfl, rfl, ha, hb, hz, q⟩ := h
  refine op_catA pins s σ H _ _ v u Q I rx ry ⟨a, b, xs, ys, rfl, rfl, .inl (.inl ha), .inl (.inl hb), sz hz, fun e => ?_, fun _ e => ?_, fun _ _ p hp => ?_⟩
  · subst e
    exact q b H (Same.refl H) hb
  · subst e
    exact q a H (Same.refl H) (by rw [List.append_nil]; exact ha)
  · exact q p _ (same_new hp) upd_same
theorem op_mul_txt : OpR X (binaryOp .Mult) (fun x y H Q => ∃ (z : Str) (n : Int), x = .str z ∧ y = .int n ∧ (0 ≤ n ∧ n ≤ 1000 ∧ z.length ≤ 1000) ∧ ∀ m : Str, (m.length : Int) = (z.length : Int) * n → Q (.str m) H) := by
  intro pins s σ H x y v u Q I rx ry h
  obtain ⟨z, n, rfl, rfl, hz, q⟩ := h
  obtain ⟨t, rfl⟩ := rx
  obtain ⟨t', rfl⟩ := ry
  refine SB.mul (mulOk_of 1000 1000 hz.2.2 (by omega) (by omega) (by decide) (by decide)) fun t' k => ?_
  have e := len_mul z n
  rw [if_neg (by simp; omega)] at e
  exact ⟨.str (Txt.mul z n), H, I.tok _, ⟨_, rfl⟩, q _ e⟩
end
theorem cutV_mem {xs : List V} {lo hi : Option Int} {v : V} (h : v ∈ cutV xs lo hi) : v ∈ xs := by
  unfold cutV at h
  exact List.mem_of_mem_drop (List.mem_of_mem_take h)
theorem cutV_len (xs : List V) (lo hi : Option Int) : (cutV xs lo hi).length ≤ xs.length := by
  unfold cutV
  rw [List.length_take, List.length_drop]
  omega
/-! ### things of the laws -/
def Flat (v : V) : Prop := v = .non ∨ (∃ x, v = .bl x) ∨ (∃ i, v = .int i) ∨ ∃ z : Str, v = .str z ∧ z.length ≤ 100000
def It (b : Addr) (H : Hp) (v : V) : Prop := Flat v ∨ (∃ a xs, v = .ref a ∧ a ≠ b ∧ H a = some (.lst xs)) ∨ ∃ a xs, v = .ref a ∧ H a = some (.tup xs)
def Tg (b : Addr) (H : Hp) (v : V) : Prop := Flat v ∨ (∃ a xs, v = .ref a ∧ a ≠ b ∧ H a = some (.lst xs)) ∨ ∃ a xs, v = .ref a ∧ H a = some (.tup xs) ∧ xs.length ≤ 1000 ∧ ∀ u ∈ xs, It b H u
theorem BagAt.tup {H : Hp} {b a : Addr} {xs : List V} (h : BagAt H b) (e : H a = some (.tup xs)) : a ≠ b := fun z => by
  obtain ⟨g, s, e2, _⟩ := h
  rw [z, e2] at e
  cases e
theorem It.bx {b : Addr} {H H' : Hp} {v : V} (h : It b H v) (hb : BagAt H b) (x : Bx b H H') : It b H' v := by
  rcases h with h | ⟨a, xs, rfl, n, e⟩ | ⟨a, xs, rfl, e⟩
  · exact .inl h
  · exact .inr (.inl ⟨a, xs, rfl, n, x.2 _ _ n e⟩)
  · exact .inr (.inr ⟨a, xs, rfl, x.2 _ _ (hb.tup e) e⟩)
theorem Tg.bx {b : Addr} {H H' : Hp} {v : V} (h : Tg b H v) (hb : BagAt H b) (x : Bx b H H') : Tg b H' v := by
  rcases h with h | ⟨a, xs, rfl, n, e⟩ | ⟨a, xs, rfl, e, l, k⟩
  · exact .inl h
  · exact .inr (.inl ⟨a, xs, rfl, n, x.2 _ _ n e⟩)
  · exact .inr (.inr ⟨a, xs, rfl, x.2 _ _ (hb.tup e) e, l, fun u hu => (k u hu).bx hb x⟩)
theorem Tg.it {b : Addr} {H : Hp} {v : V} (h : Tg b H v) : It b H v := by
  rcases h with h | h | ⟨a, xs, rfl, e, l, k⟩
  · exact .inl h
  · exact .inr (.inl h)
  · exact .inr (.inr ⟨a, xs, rfl, e⟩)
theorem Tg.str {b : Addr} {H : Hp} {z : Str} (h : z.length ≤ 100000) : Tg b H (.str z) := .inl (.inr (.inr (.inr ⟨z, rfl, h⟩)))
theorem It.str {b : Addr} {H : Hp} {z : Str} (h : z.length ≤ 100000) : It b H (.str z) := .inl (.inr (.inr (.inr ⟨z, rfl, h⟩)))
theorem str_sOf (z : Str) : z = sOf z.cps.toList := of_list rfl

/-! ### rules whose new objects stand in an opaque heap -/
section
variable {X : Cx} {es : List Expr} {t : TA} {pos : Pos}
theorem pe_weaken {e : Expr} {te tf : TE} (h : PE X e te) (k : ∀ σ H Q, tf σ H Q → te σ H Q) : PE X e tf := ⟨fun pins s σ H Q I q => h.run pins s σ H Q I (k σ H Q q)⟩
def tLstW (t : TA) : TE := fun σ H Q => t σ H fun xs H1 => xs.length ≤ 100000 ∧ ∀ p H2, H1 p = none → Same H1 H2 → H2 p = some (.lst xs) → Q (.ref p) H2
def tTupW (t : TA) : TE := fun σ H Q => t σ H fun xs H1 => xs.length ≤ 100000 ∧ ∀ p H2, H1 p = none → Same H1 H2 → H2 p = some (.tup xs) → Q (.ref p) H2
end
def rNewW (H : Hp) (o : HO) (Q : VK) : Prop := ∀ p H2, H p = none → Same H H2 → H2 p = some o → Q (.ref p) H2
theorem rNewW.go {H : Hp} {o : HO} {Q : VK} (q : rNewW H o Q) : ∀ p, H p = none → Q (.ref p) (upd H p o) := fun p hp => q p _ hp (same_new hp) upd_same
section
variable {X : Cx}
theorem op_catLW : OpR X (binaryOp .Add) (fun x y H Q => ∃ a b xs ys, x = .ref a ∧ y = .ref b ∧ H a = some (.lst xs) ∧ H b = some (.lst ys) ∧ xs.length + ys.length ≤ 100000 ∧ rNewW H (.lst (xs ++ ys)) Q) := by
  intro pins s σ H x y v u Q I rx ry h
  obtain ⟨a, b, xs, ys, rfl, rfl, ha, hb, hz, q⟩ := h
  exact op_cat pins s σ H _ _ v u Q I rx ry ⟨a, b, xs, ys, rfl, rfl, ha, hb, sz hz, q.go⟩
theorem op_repTW : OpR X (binaryOp .Mult) (fun x y H Q => ∃ l k xs, x = .ref l ∧ y = .int k ∧ H l = some (.tup xs) ∧ xs ≠ [] ∧ 2 ≤ k ∧ k ≤ 1000 ∧ xs.length ≤ 1000 ∧ rNewW H (.tup (List.replicate k.toNat xs).flatten) Q) := by
  intro pins s σ H x y v u Q I rx ry h
  obtain ⟨l, k, xs, rfl, rfl, hl, h1, h2, h3, h4, q⟩ := h
  exact op_repT pins s σ H _ _ v u Q I rx ry ⟨l, k, xs, rfl, rfl, .inl (.inl hl), h1, h2, h3, h4, q.go⟩
theorem call_list_ofW : CallR X (.type "list") (fun xs H Q => ∃ p ys, xs = [.ref p] ∧ (H p = some (.lst ys) ∨ H p = some (.tup ys)) ∧ rNewW H (.lst ys) Q) := by
  intro pins s σ H xs us Q I r h
  obtain ⟨p, ys, rfl, hp, q⟩ := h
  exact call_list_of pins s σ H _ us Q I r ⟨p, ys, rfl, hp.elim (fun h => .inl (SqL.of h)) (fun h => .inr (.inl (.inl h))), q.go⟩
theorem call_list_strW (hc : X.calm = true) : CallR X (.type "list") (fun xs H Q => ∃ z : Str, xs = [.str z] ∧ z.length ≤ 100000 ∧ rNewW H (.lst (cells z.cps.toList)) Q) := by
  intro pins s σ H xs us Q I r h
  obtain ⟨z, rfl, hz, q⟩ := h
  refine call_list_str hc pins s σ H _ us Q I r ⟨z.cps.toList, by rw [← str_sOf], ?_, q.go⟩
  rw [Array.length_toList]
  exact hz
end
section
variable {X : Cx} {es : List Expr} {t : TA} {pos : Pos}
theorem pe_tupW {x1} (h : PA X es t) : PE X (.Tuple es x1 pos) (tTupW t) := by
  refine ⟨fun pins s σ H Q I hq => ?_⟩
  refine wpAny_Tuple_spliced (thn (h.run pos pins s σ H _ I hq) fun us s1 ⟨xs, H1, I1, r, z, q⟩ => ⟨by rw [← r.length]; exact sz z, ?_⟩)
  have hf : H1 s1.heap.objs.size = none := I1.hok.fresh (Nat.le_refl _)
  refine ⟨.ref s1.heap.objs.size, upd H1 s1.heap.objs.size (.tup xs), I1.laid (t' := s1.toks) (fun b u e => Heap.get?_push_of_some _ e) (Nat.le_refl _) ?_, rfl, q _ _ hf (same_new hf) upd_same⟩
  exact ⟨sz z, us, r, ⟨_, Heap.get?_push_size _ rfl, rfl, _, rfl⟩⟩
theorem pe_lstW (h : PA X es t) : PE X (.List es pos) (tLstW t) := by
  refine ⟨fun pins s σ H Q I hq => ?_⟩
  refine wpAny_List_spliced (thn (h.run pos pins s σ H _ I hq) fun us s1 ⟨xs, H1, I1, r, z, q⟩ => ⟨by rw [← r.length]; exact sz z, ?_⟩)
  have hf : H1 s1.heap.objs.size = none := I1.hok.fresh (Nat.le_refl _)
  refine ⟨.ref s1.heap.objs.size, upd H1 s1.heap.objs.size (.lst xs), I1.laid (t' := s1.toks) (fun b u e => Heap.get?_push_of_some _ e) (Nat.le_refl _) ?_, rfl, q _ _ hf (same_new hf) upd_same⟩
  exact ⟨sz z, us, 0, r, Heap.get?_push_size _ rfl⟩
end
end Fp

set_option Elab.async false
set_option linter.all false
set_option maxRecDepth 100000
set_option maxHeartbeats 4000000
/-! The first place of a sign in a text; the runs of a row. -/
namespace Fp
open PySem L2 PyProof.Rows
def oth (c : Nat) : Nat := if c = 46 then 35 else 46
theorem oth_46 : oth 46 = 35 := rfl
theorem oth_35 : oth 35 = 46 := rfl
theorem oth_cell (c : Nat) : Cell (oth c) := by
  unfold oth
  split
  · exact .inr rfl
  · exact .inl rfl
theorem oth_ne {c : Nat} (h : Cell c) : oth c ≠ c := by
  rcases h with rfl | rfl <;> decide
theorem oth_oth {c : Nat} (h : Cell c) : oth (oth c) = c := by
  rcases h with rfl | rfl <;> rfl
theorem cell_ne {c x : Nat} (hc : Cell c) (hx : Cell x) (n : x ≠ oth c) : x = c := by
  rcases hc with rfl | rfl <;> rcases hx with rfl | rfl <;> first | rfl | exact absurd rfl n
/-- the first place of c in l, from s on; l's end where there is none -/
def fp (l : List Nat) (c s : Nat) : Nat := if s ≤ l.length then s + ((l.drop s).takeWhile (fun x => decide (x ≠ c))).length else l.length
theorem tw_spec (c : Nat) : ∀ l : List Nat, (∀ v, v < (l.takeWhile (fun x => decide (x ≠ c))).length → l[v]? ≠ some c) ∧ (l.takeWhile (fun x => decide (x ≠ c))).length ≤ l.length ∧ ((l.takeWhile (fun x => decide (x ≠ c))).length < l.length → l[(l.takeWhile (fun x => decide (x ≠ c))).length]? = some c)
  | [] => ⟨fun v h => by simp at h, by simp, fun h => by simp at h⟩
  | x :: r => by
    obtain ⟨h1, h2, h3⟩ := tw_spec c r
    by_cases e : x = c
    · subst e
      have z : (x :: r).takeWhile (fun y => decide (y ≠ x)) = [] := by
        rw [List.takeWhile_cons]
        simp
      rw [z]
      exact ⟨fun v h => by simp at h, by simp, fun _ => rfl⟩
    · have z : (x :: r).takeWhile (fun y => decide (y ≠ c)) = x :: r.takeWhile (fun y => decide (y ≠ c)) := by
        rw [List.takeWhile_cons]
        simp [e]
      rw [z]
      refine ⟨fun v h => ?_, ?_, fun h => ?_⟩
      · cases v with
        | zero => exact fun q => e (Option.some.inj q)
        | succ v =>
          have h' : v < (r.takeWhile (fun y => decide (y ≠ c))).length := by
            rw [List.length_cons] at h
            omega
          exact h1 v h'
      · rw [List.length_cons, List.length_cons]
        omega
      · rw [List.length_cons, List.length_cons] at h
        rw [List.length_cons, List.getElem?_cons_succ]
        exact h3 (by omega)
theorem fp_spec {l : List Nat} {c s : Nat} (h : s ≤ l.length) : s ≤ fp l c s ∧ fp l c s ≤ l.length ∧ (∀ v, s ≤ v → v < fp l c s → l[v]? ≠ some c) ∧ (fp l c s < l.length → l[fp l c s]? = some c) := by
  obtain ⟨h1, h2, h3⟩ := tw_spec c (l.drop s)
  unfold fp
  rw [if_pos h]
  rw [List.length_drop] at h2 h3
  refine ⟨by omega, by omega, fun v a b => ?_, fun b => ?_⟩
  · have := h1 (v - s) (by omega)
    rw [List.getElem?_drop, show s + (v - s) = v by omega] at this
    exact this
  · have := h3 (by omega)
    rw [List.getElem?_drop] at this
    exact this
theorem fp_uniq {l : List Nat} {c s k : Nat} (h : s ≤ l.length) (h1 : s ≤ k) (h2 : k ≤ l.length) (h3 : ∀ v, s ≤ v → v < k → l[v]? ≠ some c) (h4 : k < l.length → l[k]? = some c) : fp l c s = k := by
  obtain ⟨a1, a2, a3, a4⟩ := fp_spec (c := c) h
  by_cases e1 : fp l c s < k
  · exact absurd (a4 (by omega)) (h3 _ a1 e1)
  · by_cases e2 : k < fp l c s
    · exact absurd (h4 (by omega)) (a3 _ h1 e2)
    · omega
theorem fp_le (l : List Nat) (c s : Nat) : fp l c s ≤ l.length := by
  by_cases h : s ≤ l.length
  · exact (fp_spec h).2.1
  · unfold fp
    rw [if_neg h]
    exact Nat.le_refl _
theorem sOf_getD (l : List Nat) (v : Nat) : (sOf l).cps.getD v 0 = (l[v]?).getD 0 := by
  show (l.toArray).getD v 0 = _
  simp [Array.getD]
  by_cases h : v < l.length
  · rw [dif_pos h, List.getElem?_eq_getElem h]
    rfl
  · rw [dif_neg h, List.getElem?_eq_none (by omega)]
    rfl
/-- find, and what first_place makes of it -/
theorem find3_fp (l : List Nat) (c s : Nat) : (Txt.find3 (sOf l) (sOf [c]) (s : Int) < 0 ∧ fp l c s = l.length) ∨ (Txt.find3 (sOf l) (sOf [c]) (s : Int) = (fp l c s : Int)) := by
  have e : PySem.fromIndex (sOf l).length (s : Int) = s := by
    unfold PySem.fromIndex
    rw [if_neg (by omega)]
    omega
  rcases StrLaws.find3_spec (sOf l) c (s : Int) with ⟨h1, h2⟩ | ⟨k, h1, h2, h3, h4, h5⟩
  · left
    refine ⟨by rw [show sOf [c] = ⟨#[c]⟩ from rfl, h1]; decide, ?_⟩
    by_cases h : s ≤ l.length
    · refine fp_uniq h h (Nat.le_refl _) (fun v a b => ?_) (fun z => absurd z (Nat.lt_irrefl _))
      have := h2 v (by rw [e]; exact a) (by rw [sOf_len]; exact b)
      rw [sOf_getD, List.getElem?_eq_getElem b] at this
      rw [List.getElem?_eq_getElem b]
      exact fun q => this (Option.some.inj q)
    · unfold fp
      rw [if_neg h]
  · right
    rw [e] at h2 h5
    rw [sOf_len] at h3
    rw [show sOf [c] = ⟨#[c]⟩ from rfl, h1]
    congr 1
    symm
    refine fp_uniq (by omega) h2 (by omega) (fun v a b => ?_) (fun _ => ?_)
    · have := h5 v a b
      have b' : v < l.length := by omega
      rw [sOf_getD, List.getElem?_eq_getElem b'] at this
      rw [List.getElem?_eq_getElem b']
      exact fun q => this (Option.some.inj q)
    · rw [sOf_getD, List.getElem?_eq_getElem h3] at h4
      rw [List.getElem?_eq_getElem h3]
      exact congrArg some h4
/-- the runs: what is left, the colour, how many of it stand ahead -/
def runsFrom : List Nat → Nat → Nat → List Nat
  | [], _, k => [k]
  | x :: r, c, k => if x = oth c then k :: runsFrom r (oth c) 1 else runsFrom r c (k + 1)
def runsL (l : List Nat) : List Nat := runsFrom l 46 0
theorem runsFrom_ne (l : List Nat) (c k : Nat) : runsFrom l c k ≠ [] := by
  induction l generalizing c k with
  | nil => exact fun h => by cases h
  | cons x r ih =>
    unfold runsFrom
    split
    · exact fun h => by cases h
    · exact ih c (k + 1)
theorem runsFrom_step (c : Nat) (hc : Cell c) : ∀ (l : List Nat) (k : Nat), runsFrom l c k = (k + (l.takeWhile (fun x => decide (x ≠ oth c))).length) :: (if l.drop (l.takeWhile (fun x => decide (x ≠ oth c))).length = [] then [] else runsFrom (l.drop (l.takeWhile (fun x => decide (x ≠ oth c))).length) (oth c) 0)
  | [], k => by simp [runsFrom]
  | x :: r, k => by
    by_cases e : x = oth c
    · have z : (x :: r).takeWhile (fun y => decide (y ≠ oth c)) = [] := by
        rw [List.takeWhile_cons]
        simp [e]
      rw [z]
      have n1 : oth c ≠ oth (oth c) := by
        rcases hc with rfl | rfl <;> decide
      rw [List.length_nil, List.drop_zero, if_neg (by simp)]
      conv => lhs; unfold runsFrom
      conv => rhs; rhs; unfold runsFrom
      rw [if_pos e, if_neg (by rw [e]; exact n1)]
      rfl
    · have z : (x :: r).takeWhile (fun y => decide (y ≠ oth c)) = x :: r.takeWhile (fun y => decide (y ≠ oth c)) := by
        rw [List.takeWhile_cons]
        simp [e]
      rw [z, List.length_cons, List.drop_succ_cons]
      conv => lhs; unfold runsFrom
      rw [if_neg e, runsFrom_step c hc r (k + 1)]
      congr 1
      omega
/-- a step of runs_of at a place -/
theorem runs_at {l : List Nat} {c p : Nat} (hc : Cell c) (hp : p ≤ l.length) : runsFrom (l.drop p) c 0 = (fp l (oth c) p - p) :: (if fp l (oth c) p = l.length then [] else runsFrom (l.drop (fp l (oth c) p)) (oth c) 0) := by
  rw [runsFrom_step c hc]
  have e : fp l (oth c) p = p + ((l.drop p).takeWhile (fun x => decide (x ≠ oth c))).length := by
    unfold fp
    rw [if_pos hp]
  have le := fp_le l (oth c) p
  rw [List.drop_drop, ← e]
  congr 1
  · omega
  · have q : l.drop (fp l (oth c) p) = [] ↔ fp l (oth c) p = l.length := by
      rw [List.drop_eq_nil_iff]
      omega
    by_cases h : fp l (oth c) p = l.length
    · rw [if_pos (q.mpr h), if_pos h]
    · rw [if_neg (fun z => h (q.mp z)), if_neg h]
/-- runs put together -/
def unr : List Nat → Nat → List Nat
  | [], _ => []
  | k :: r, c => List.replicate k c ++ unr r (oth c)
theorem unr_runs {l : List Nat} (h : Row l) {c : Nat} (hc : Cell c) (k : Nat) : unr (runsFrom l c k) c = List.replicate k c ++ l := by
  induction l generalizing c k with
  | nil =>
    show List.replicate k c ++ [] = _
    rfl
  | cons x r ih =>
    have hr : Row r := fun y hy => h y (List.mem_cons_of_mem _ hy)
    unfold runsFrom
    split
    · rename_i e
      show List.replicate k c ++ unr (runsFrom r (oth c) 1) (oth c) = _
      rw [ih hr (oth_cell c), e]
      rfl
    · rename_i e
      rw [ih hr hc, cell_ne hc (h x (List.mem_cons_self ..)) e, List.replicate_succ', List.append_assoc]
      rfl
theorem runs_pos {l : List Nat} {c k : Nat} (hc : Cell c) : ∀ x ∈ (runsFrom l c k).drop 1, 0 < x := by
  have main : ∀ (l : List Nat) (c k : Nat), 0 < k → ∀ x ∈ runsFrom l c k, 0 < x := by
    intro l
    induction l with
    | nil =>
      intro c k hk x hx
      rw [List.mem_singleton.mp hx]
      exact hk
    | cons y r ih =>
      intro c k hk x hx
      unfold runsFrom at hx
      split at hx
      · rcases List.mem_cons.mp hx with e | e
        · rw [e]
          exact hk
        · exact ih _ _ (by decide) x e
      · exact ih _ _ (by omega) x hx
  induction l generalizing c k with
  | nil =>
    intro x hx
    cases hx
  | cons y r ih =>
    intro x hx
    unfold runsFrom at hx
    split at hx
    · exact main _ _ _ (by decide) x hx
    · exact ih hc x hx
theorem unr_len : ∀ (rs : List Nat) (c : Nat), (unr rs c).length = rs.sum
  | [], _ => rfl
  | k :: r, c => by
    show (List.replicate k c ++ unr r (oth c)).length = _
    rw [List.length_append, List.length_replicate, unr_len r, List.sum_cons]
theorem runs_sum {l : List Nat} (h : Row l) : (runsL l).sum = l.length := by
  rw [← unr_len (runsL l) 46]
  unfold runsL
  rw [unr_runs h (.inl rfl)]
  rfl
theorem le_sum {xs : List Nat} {x : Nat} (h : x ∈ xs) : x ≤ xs.sum := by
  induction xs with
  | nil => cases h
  | cons y r ih =>
    rw [List.sum_cons]
    rcases List.mem_cons.mp h with e | e
    · omega
    · have := ih e
      omega
theorem pos_sum : ∀ xs : List Nat, (∀ x ∈ xs, 0 < x) → xs.length ≤ xs.sum
  | [], _ => Nat.le_refl _
  | y :: r, h => by
    have h1 := pos_sum r fun x hx => h x (List.mem_cons_of_mem _ hx)
    have h2 := h y (List.mem_cons_self ..)
    rw [List.sum_cons, List.length_cons]
    omega
theorem runs_len {l : List Nat} (h : Row l) : (runsL l).length ≤ l.length + 1 := by
  have h1 := runs_pos (l := l) (k := 0) (c := 46) (.inl rfl)
  have h2 := pos_sum _ h1
  have h3 := runs_sum h
  unfold runsL at h3 ⊢
  cases e : runsFrom l 46 0 with
  | nil => simp
  | cons y r =>
    rw [e] at h2 h3
    rw [List.sum_cons] at h3
    simp only [List.drop_succ_cons, List.drop_zero] at h2
    rw [List.length_cons]
    omega
/-- the colour of the i-th run -/
def colr (c : Nat) : Nat → Nat
  | 0 => c
  | i + 1 => oth (colr c i)
theorem colr_succ (c : Nat) : ∀ i, colr (oth c) i = oth (colr c i)
  | 0 => rfl
  | i + 1 => by
    show oth (colr (oth c) i) = oth (oth (colr c i))
    rw [colr_succ c i]
theorem colr_mod : ∀ i : Nat, colr 46 i = if i % 2 = 0 then 46 else 35
  | 0 => rfl
  | i + 1 => by
    show oth (colr 46 i) = _
    rw [colr_mod i]
    by_cases h : i % 2 = 0
    · rw [if_pos h, if_neg (by omega)]
      rfl
    · rw [if_neg h, if_pos (by omega)]
      rfl
theorem unr_more : ∀ (rs : List Nat) (c i x : Nat), rs[i]? = some x → unr (rs.take (i + 1)) c = unr (rs.take i) c ++ List.replicate x (colr c i)
  | [], _, _, _, h => by cases h
  | y :: r, c, 0, x, h => by
    have : y = x := Option.some.inj h
    subst this
    show List.replicate y c ++ unr (r.take 0) (oth c) = [] ++ List.replicate y c
    rw [List.take_zero]
    show List.replicate y c ++ [] = _
    rw [List.append_nil, List.nil_append]
  | y :: r, c, i + 1, x, h => by
    show List.replicate y c ++ unr (r.take (i + 1)) (oth c) = (List.replicate y c ++ unr (r.take i) (oth c)) ++ List.replicate x (oth (colr c i))
    rw [unr_more r (oth c) i x h, colr_succ, List.append_assoc]
end Fp

set_option Elab.async false
set_option linter.all false
set_option maxRecDepth 100000
set_option maxHeartbeats 4000000
namespace K08
open PySem PySem.Spec PyProof.Rows L2 Fp
def topS (i : Nat) : Stmt := PySem.Challenge.pw_farpage_k08_runs_of_rows.main.body.getD i (.Pass ⟨0, 0, 0, 0⟩)
abbrev s_first_place : Stmt := topS 1
abbrev N_first_place : List Str := ["text", "wanted", "start", "place"]
abbrev P_first_place : List Str := ["text", "wanted", "start"]
theorem sc_first_place : FnScope N_first_place P_first_place (defScope s_first_place) := ⟨rfl, rfl, rfl, by decide +kernel, rfl, by decide +kernel, by decide +kernel⟩
abbrev s_other_cell : Stmt := topS 5
abbrev N_other_cell : List Str := ["cell"]
abbrev P_other_cell : List Str := ["cell"]
theorem sc_other_cell : FnScope N_other_cell P_other_cell (defScope s_other_cell) := ⟨rfl, rfl, rfl, by decide +kernel, rfl, by decide +kernel, by decide +kernel⟩
abbrev s_runs_of : Stmt := topS 7
abbrev N_runs_of : List Str := ["row", "runs", "cell", "place", "behind"]
abbrev P_runs_of : List Str := ["row"]
theorem sc_runs_of : FnScope N_runs_of P_runs_of (defScope s_runs_of) := ⟨rfl, rfl, rfl, by decide +kernel, rfl, by decide +kernel, by decide +kernel⟩
abbrev s_bag : Stmt := topS 9
abbrev N_bag : List Str := ["_law_script", "_law_at", "_law_cell", "_law_great"]
abbrev P_bag : List Str := ["_law_script", "_law_at"]
theorem sc_bag : FnScope N_bag P_bag (defScope s_bag) := ⟨rfl, rfl, rfl, by decide +kernel, rfl, by decide +kernel, by decide +kernel⟩
abbrev s_draw : Stmt := topS 10
abbrev N_draw : List Str := ["_law_bag_here", "_law_many", "_law_digit"]
abbrev P_draw : List Str := ["_law_bag_here", "_law_many"]
theorem sc_draw : FnScope N_draw P_draw (defScope s_draw) := ⟨rfl, rfl, rfl, by decide +kernel, rfl, by decide +kernel, by decide +kernel⟩
abbrev s_row : Stmt := topS 11
abbrev N_row : List Str := ["_law_bag_here", "_law_breadth", "_law_above", "_law_way", "_law_row_here", "_law_most", "_law_colour", "_law_left", "_law_place", "_law_turn"]
abbrev P_row : List Str := ["_law_bag_here", "_law_breadth", "_law_above"]
theorem sc_row : FnScope N_row P_row (defScope s_row) := ⟨rfl, rfl, rfl, by decide +kernel, rfl, by decide +kernel, by decide +kernel⟩
abbrev s_whole : Stmt := topS 12
abbrev N_whole : List Str := ["_law_thing"]
abbrev P_whole : List Str := ["_law_thing"]
theorem sc_whole : FnScope N_whole P_whole (defScope s_whole) := ⟨rfl, rfl, rfl, by decide +kernel, rfl, by decide +kernel, by decide +kernel⟩
abbrev s_good : Stmt := topS 13
abbrev N_good : List Str := ["_law_row_here", "_law_found", "_law_again", "_law_k", "_law_kept", "_law_run"]
abbrev P_good : List Str := ["_law_row_here"]
theorem sc_good : FnScope N_good P_good (defScope s_good) := ⟨rfl, rfl, rfl, by decide +kernel, rfl, by decide +kernel, by decide +kernel⟩
abbrev s_law : Stmt := topS 14
abbrev N_law : List Str := ["_law_script", "_law_k", "_law_bag_here", "_law_breadth", "_law_row_here", "_law_turn"]
abbrev P_law : List Str := ["_law_script"]
theorem sc_law : FnScope N_law P_law (defScope s_law) := ⟨rfl, rfl, rfl, by decide +kernel, rfl, by decide +kernel, by decide +kernel⟩
structure Ad where
  a_first_place : Addr
  d_first_place : FuncData
  a_other_cell : Addr
  d_other_cell : FuncData
  a_runs_of : Addr
  d_runs_of : FuncData
  a_bag : Addr
  d_bag : FuncData
  a_draw : Addr
  d_draw : FuncData
  a_row : Addr
  d_row : FuncData
  a_whole : Addr
  d_whole : FuncData
  a_good : Addr
  d_good : FuncData
  a_law : Addr
  d_law : FuncData
  t_DARK : Tok
  t_LIGHT : Tok
structure Txt (w : World) (K : PySem.W.Frag) (mg : Str → Option Value) (base : Heap) (A : Ad) : Prop where
  F_first_place : Fun K "first_place" "first_place" s_first_place A.a_first_place A.d_first_place
  b_first_place : Binds K A.d_first_place P_first_place []
  g_first_place : mg "first_place" = some (.ref A.a_first_place)
  F_other_cell : Fun K "other_cell" "other_cell" s_other_cell A.a_other_cell A.d_other_cell
  b_other_cell : Binds K A.d_other_cell P_other_cell []
  g_other_cell : mg "other_cell" = some (.ref A.a_other_cell)
  F_runs_of : Fun K "runs_of" "runs_of" s_runs_of A.a_runs_of A.d_runs_of
  b_runs_of : Binds K A.d_runs_of P_runs_of []
  g_runs_of : mg "runs_of" = some (.ref A.a_runs_of)
  F_bag : Fun K "_law_bag" "_law_bag" s_bag A.a_bag A.d_bag
  b_bag : Binds K A.d_bag P_bag []
  g_bag : mg "_law_bag" = some (.ref A.a_bag)
  F_draw : Fun K "_law_draw" "_law_draw" s_draw A.a_draw A.d_draw
  b_draw : Binds K A.d_draw P_draw []
  g_draw : mg "_law_draw" = some (.ref A.a_draw)
  F_row : Fun K "_law_row" "_law_row" s_row A.a_row A.d_row
  b_row : Binds K A.d_row P_row []
  g_row : mg "_law_row" = some (.ref A.a_row)
  F_whole : Fun K "_law_whole" "_law_whole" s_whole A.a_whole A.d_whole
  b_whole : Binds K A.d_whole P_whole []
  g_whole : mg "_law_whole" = some (.ref A.a_whole)
  F_good : Fun K "_law_good" "_law_good" s_good A.a_good A.d_good
  b_good : Binds K A.d_good P_good []
  g_good : mg "_law_good" = some (.ref A.a_good)
  F_law : Fun K "law" "law" s_law A.a_law A.d_law
  g_law : mg "law" = some (.ref A.a_law)
  z_abs : mg "abs" = none
  z_all : mg "all" = none
  z_bool : mg "bool" = none
  z_int : mg "int" = none
  z_isinstance : mg "isinstance" = none
  z_len : mg "len" = none
  z_list : mg "list" = none
  z_max : mg "max" = none
  z_min : mg "min" = none
  z_range : mg "range" = none
  c_DARK : mg "DARK" = some (.str "#" A.t_DARK)
  c_LIGHT : mg "LIGHT" = some (.str "." A.t_LIGHT)
section
variable {P : Program} {w : World} {K : PySem.W.Frag} {mg : Str → Option Value} {base : Heap}
def spBag (K : PySem.W.Frag) : Sp := fun vs H Q _ => ∃ (a : Addr) (ns : List Int) (k : Int), vs = [.ref a, .int k] ∧ SqL K H a (ns.map V.int) ∧ 0 ≤ k ∧ k ≤ 1000 ∧
  ∀ p g s, H p = none → 0 ≤ g → 0 ≤ s → s < 1000000000000 → Q (.ref p) (upd H p (.lst [.int g, .int s]))
theorem ok_bag {A : Ad} (T : Txt w K mg base A) : FnOk P w K mg base CX0 1 A.a_bag A.d_bag P_bag (spBag K) := by
  refine T.F_bag.ok sc_bag (fun vs H Q E h => ?_) (fun cdv Ar outer s H vs Q E hr h => ?_)
  · obtain ⟨a, ns, k, rfl, _⟩ := h
    rfl
  · obtain ⟨a, ns, k, rfl, hS, k0, k1, q⟩ := h
    refine ⟨_, (pss_cons (ps_set (i := 2) sc_bag.nd rfl (Or.inl rfl) pe_int)
      (pss_cons (ps_if (pt_cmpR op_lt (pv 1) (pe_callB (r := fun xs H Q => ∃ p ys, xs = [.ref p] ∧ (SqL K H p ys ∨ SqT K H p ys) ∧ Q (.int ys.length) H) call_len_seq (by rfl) T.z_len PySem.boot_len (pa_cons (pv 0) pa_nil)) (nomark _))
      (pss_one (ps_set (i := 2) sc_bag.nd rfl (Or.inl rfl) (pe_ix (r := rIxL K) ix_list (pv 0) (pv 1) (fun _ _ => rfl)))) pss_nil)
      (pss_cons (ps_set (i := 3) sc_bag.nd rfl (Or.inl rfl) pe_int)
      (pss_cons (ps_if (pt_cmpR op_ge (pe_callB call_abs (by rfl) T.z_abs (by decide +kernel) (pa_cons (pv 2) pa_nil)) (pe_op op_pow pe_int pe_int) (nomark _))
      (pss_one (ps_set (i := 3) sc_bag.nd rfl (Or.inl rfl) (pe_callB call_abs (by rfl) T.z_abs (by decide +kernel) (pa_cons (pv 2) pa_nil)))) pss_nil)
      (pss_one (ps_ret (pe_lst (pa_cons (pv 3) (pa_cons (pe_op op_add (pe_op op_add (pe_op op_mul (pe_op op_mod (pv 2) pe_int) pe_int) (pe_op op_mul pe_int (pv 1))) pe_int) pa_nil))))))))), ?_⟩
    have fin : ∀ (c g : Int), 0 ≤ g → tSeq (tIfS (tTest (tOp (rI0 fun i j => .bl (decide (j ≤ i))) (tCB (fun xs H Q => ∃ i, xs = [.int i] ∧ Q (.int (if i < 0 then -i else i)) H) (tCons (tVar 2) tNil)) (tOp (rI CPow fun i j => .int (i ^ j.toNat)) (tC (.int 10)) (tC (.int 18))))) (tAsg (tCB (fun xs H Q => ∃ i, xs = [.int i] ∧ Q (.int (if i < 0 then -i else i)) H) (tCons (tVar 2) tNil)) (gName 3)) tNext)
        (tRet (tLst (tCons (tVar 3) (tCons (tOp (rI0 fun i j => .int (i + j)) (tOp (rI0 fun i j => .int (i + j)) (tOp (rI CMul fun i j => .int (i * j)) (tOp (rI (fun _ j => 0 < j) fun i j => .int (i % j)) (tVar 2) (tC (.int 1000000007))) (tC (.int 7))) (tOp (rI CMul fun i j => .int (i * j)) (tC (.int 1013)) (tVar 1))) (tC (.int 5))) tNil)))) { nx := fun _ H' => Q .non H', rt := Q } [some (.ref a), some (.int k), some (.int c), some (.int g)] H := by
      intro c g g0
      have fin2 : ∀ (g : Int), 0 ≤ g → tRet (tLst (tCons (tVar 3) (tCons (tOp (rI0 fun i j => .int (i + j)) (tOp (rI0 fun i j => .int (i + j)) (tOp (rI CMul fun i j => .int (i * j)) (tOp (rI (fun _ j => 0 < j) fun i j => .int (i % j)) (tVar 2) (tC (.int 1000000007))) (tC (.int 7))) (tOp (rI CMul fun i j => .int (i * j)) (tC (.int 1013)) (tVar 1))) (tC (.int 5))) tNil))) { nx := fun _ H' => Q .non H', rt := Q } [some (.ref a), some (.int k), some (.int c), some (.int g)] H := by
        intro g g0
        have m0 := Int.emod_nonneg c (show (1000000007 : Int) ≠ 0 by decide)
        have m1 := Int.emod_lt_of_pos c (show (0 : Int) < 1000000007 by decide)
        refine ⟨_, rfl, _, rfl, _, _, rfl, rfl, (by show (0 : Int) < 1000000007; decide), _, _, rfl, rfl, .inr ⟨by decide, by decide⟩, _, rfl, _, _, rfl, rfl, .inl ⟨by decide, by decide⟩, _, _, rfl, rfl, _, _, rfl, rfl, (by show 2 ≤ sizeLine; decide), fun p hp => ?_⟩
        exact q p g _ hp g0 (by omega) (by omega)
      refine ⟨_, rfl, _, rfl, _, _, rfl, rfl, ⟨by decide, by decide, by decide⟩, _, _, rfl, rfl, _, rfl, ite2 (fun e => ?_) (fun e => ?_)⟩
      · refine ⟨_, rfl, _, rfl, fin2 _ ?_⟩
        split <;> omega
      · exact fin2 g g0
    refine ⟨_, rfl, _, rfl, _, _, rfl, .inl hS, _, _, rfl, rfl, _, rfl, ite2 (fun e => ?_) (fun e => ?_)⟩
    · have lt : k < ((ns.map V.int).length : Int) := of_decide_eq_true e
      obtain ⟨j, rfl⟩ := Int.eq_ofNat_of_zero_le k0
      have hj : j < ns.length := by
        rw [List.length_map] at lt
        omega
      have g : (ns.map V.int)[j]? = some (.int ns[j]) := by
        rw [List.getElem?_map, List.getElem?_eq_getElem hj]
        rfl
      refine ⟨_, rfl, _, rfl, _, _, _, _, rfl, rfl, hS, atI_nat g, ?_⟩
      exact fin _ 0 (Int.le_refl _)
    · exact fin 0 0 (Int.le_refl _)
def spDraw : Sp := fun vs H Q _ => ∃ (b : Addr) (m : Int), vs = [.ref b, .int m] ∧ BagAt H b ∧ 0 < m ∧ m < 1000000 ∧
  ∀ (d : Int) (H' : Hp), 0 ≤ d → d < m → Bx b H H' → Q (.int d) H'
theorem ok_draw {A : Ad} (T : Txt w K mg base A) : FnOk P w K mg base CX0 1 A.a_draw A.d_draw P_draw spDraw := by
  refine T.F_draw.ok sc_draw (fun vs H Q E h => ?_) (fun cdv Ar outer s H vs Q E hr h => ?_)
  · obtain ⟨b, m, rfl, _⟩ := h
    rfl
  · obtain ⟨b, m, rfl, ⟨g, s, hb, g0, s0, s1⟩, m0, m1, q⟩ := h
    refine ⟨_, (pss_cons (ps_if (pt_cmpR op_gt (pe_ix (r := rIxL K) ix_list (pv 0) pe_int (fun _ _ => rfl)) pe_int (nomark _))
      (pss_cons (ps_set (i := 2) sc_draw.nd rfl (Or.inl rfl) (pe_op op_mod (pe_ix (r := rIxL K) ix_list (pv 0) pe_int (fun _ _ => rfl)) (pv 1)))
      (pss_cons (ps_asg (pe_op op_fdiv (pe_ix (r := rIxL K) ix_list (pv 0) pe_int (fun _ _ => rfl)) (pv 1)) (pg_sub (pv 0) pe_int set_list))
      (pss_one (ps_ret (pv 2))))) pss_nil)
      (pss_cons (ps_asg (pe_op op_mod (pe_op op_add (pe_op op_mul (pe_ix (r := rIxL K) ix_list (pv 0) pe_int (fun _ _ => rfl)) pe_int) pe_int) pe_int) (pg_sub (pv 0) pe_int set_list))
      (pss_one (ps_ret (pe_op op_mod (pe_op op_mod (pe_op op_pow (pe_op op_fdiv (pe_ix (r := rIxL K) ix_list (pv 0) pe_int (fun _ _ => rfl)) pe_int) pe_int) pe_int) (pv 1)))))), ?_⟩
    refine ⟨_, rfl, _, _, _, _, rfl, rfl, SqL.of hb, atI_nat (j := 0) rfl, _, _, rfl, rfl, _, rfl, ite2 (fun e => ?_) (fun e => ?_)⟩
    · refine ⟨_, rfl, _, _, _, _, rfl, rfl, SqL.of hb, atI_nat (j := 0) rfl, _, rfl, _, _, rfl, rfl, m0, ?_⟩
      refine ⟨_, rfl, _, _, _, _, rfl, rfl, SqL.of hb, atI_nat (j := 0) rfl, _, rfl, _, _, rfl, rfl, ⟨m0, by omega⟩, _, rfl, _, _, _, _, rfl, rfl, hb, Evl.ixN_nat (j := 0) (by show 0 < 2; decide), ?_⟩
      refine ⟨_, rfl, ?_⟩
      exact q _ _ (Int.emod_nonneg _ (by omega)) (Int.emod_lt_of_pos _ m0) (Bx.drawn (Int.ediv_nonneg g0 (by omega)) s0 s1)
    · have t0 := Int.emod_nonneg (s * 69621 + 1234567) (show (2147483647 : Int) ≠ 0 by decide)
      have t1 := Int.emod_lt_of_pos (s * 69621 + 1234567) (show (0 : Int) < 2147483647 by decide)
      refine ⟨_, rfl, _, _, _, _, rfl, rfl, SqL.of hb, atI_nat (j := 1) rfl, _, _, rfl, rfl, .inr ⟨by decide, by decide⟩, _, _, rfl, rfl, _, _, rfl, rfl, (by show (0 : Int) < 2147483647; decide), _, rfl, _, _, _, _, rfl, rfl, hb, Evl.ixN_nat (j := 1) (by show 1 < 2; decide), ?_⟩
      refine ⟨_, rfl, _, _, _, _, rfl, rfl, SqL.of upd_same, atI_nat (j := 1) rfl, _, _, rfl, rfl, ⟨by decide, by decide⟩, _, _, rfl, rfl, ⟨by decide, by decide, ?_⟩, _, _, rfl, rfl, (by show (0 : Int) < 998244353; decide), _, rfl, _, _, rfl, rfl, m0, ?_⟩
      · omega
      · exact q _ _ (Int.emod_nonneg _ (by omega)) (Int.emod_lt_of_pos _ m0) (Bx.drawn g0 t0 (by omega))

/-! ### a row is drawn -/
def RM (b : Addr) (m : Nat) (up : List Nat) (way : Int) (H : Hp) : L2.St → Hp → Prop := fun σ H' => ∃ (p : Addr) (l : List Nat) (y5 y6 y7 y8 y9 : Option V), σ = [some (.ref b), some (.int (m : Int)), some (.str (sOf up)), some (.int way), some (.ref p), y5, y6, y7, y8, y9] ∧ H' p = some (.lst (cells l)) ∧ H p = none ∧ l.length = m ∧ Row l ∧ Bx b H H'
def spRow : Sp := fun vs H Q _ => ∃ (b : Addr) (m : Nat) (up : List Nat) (x : Int), vs = [.ref b, .int x, .str (sOf up)] ∧ x = m ∧ BagAt H b ∧ 1 ≤ m ∧ m ≤ 1000 ∧ up.length = m ∧ Row up ∧ ∀ l H', l.length = m → Row l → Bx b H H' → Q (.str (sOf l)) H'
theorem ok_row {A : Ad} (T : Txt w K mg base A) : FnOk P w K mg base CX0 2 A.a_row A.d_row P_row spRow := by
  have G_draw := ok_draw (P := P) (w := w) (base := base) T
  refine T.F_row.ok sc_row (fun vs H Q E h => ?_) (fun cdv Ar outer s H vs Q E hr h => ?_)
  · obtain ⟨b, m, up, x, rfl, _⟩ := h
    rfl
  · obtain ⟨b, m, up, _, rfl, rfl, hb, m0, m1, lu, ru, q⟩ := h
    refine ⟨_, (pss_cons (ps_set (i := 3) sc_row.nd rfl (Or.inl rfl) (pe_call G_draw (hr.mono (by decide)) (by rfl) T.g_draw T.F_draw.kp T.b_draw .nil pass0 (pa_cons (pv 0) (pa_cons pe_int pa_nil))))
      (pss_cons (ps_set (i := 4) sc_row.nd rfl (Or.inl rfl) (pe_op op_rep (pe_lst (pa_cons (pe_ix ix_str pe_str (pe_call G_draw (hr.mono (by decide)) (by rfl) T.g_draw T.F_draw.kp T.b_draw .nil pass0 (pa_cons (pv 0) (pa_cons pe_int pa_nil))) (fun _ _ => rfl)) pa_nil)) (pv 1)))
      (Evl.pss_cut (ps_if (pt_cmpR op_eq (pv 3) pe_int (nomark _))
      (pss_one (ps_setLc (i := 4) (own := [("_law_place", 8)]) (g := gName 8) (tt := tYes) (by rfl) sc_row.nd rfl rfl (sw_true rfl rfl rfl (by decide +kernel)) (pi_range1 (by rfl) T.z_range (pa_cons (pv 1) pa_nil)) (blkOk_by (own := [("_law_place", 8)]) (N := N_row) (sc := defScope s_row) (by decide +kernel)) (fun _ _ _ _ _ => pg_name (i := 8) sc_row.nd rfl (Or.inl rfl)) (fun _ _ _ _ _ => pts_nil) (fun _ _ _ _ _ => (pe_ix ix_str pe_str (pe_call G_draw (hr.mono (by decide)) (by rfl) T.g_draw T.F_draw.kp T.b_draw .nil pass0 (pa_cons (pv 0) (pa_cons pe_int pa_nil))) (fun _ _ => rfl))))) pss_nil)
      (Evl.pss_cut (ps_if (pt_cmpR op_eq (pv 3) pe_int (nomark _))
      (pss_cons (ps_set (i := 5) sc_row.nd rfl (Or.inl rfl) (pe_op op_add pe_int (pe_call G_draw (hr.mono (by decide)) (by rfl) T.g_draw T.F_draw.kp T.b_draw .nil pass0 (pa_cons (pv 0) (pa_cons (pv 1) pa_nil)))))
      (pss_cons (ps_set (i := 6) sc_row.nd rfl (Or.inl rfl) (pe_call G_draw (hr.mono (by decide)) (by rfl) T.g_draw T.F_draw.kp T.b_draw .nil pass0 (pa_cons (pv 0) (pa_cons pe_int pa_nil))))
      (pss_cons (ps_set (i := 7) sc_row.nd rfl (Or.inl rfl) pe_int)
      (pss_one (ps_for PassesOwn.never rfl (pi_range1 (by rfl) T.z_range (pa_cons (pv 1) pa_nil)) (pg_name (i := 8) sc_row.nd rfl (Or.inl rfl))
      (Evl.pss_cut (ps_if (pt_cmpR op_eq (pv 7) pe_int (nomark _))
      (pss_cons (ps_set (i := 6) sc_row.nd rfl (Or.inl rfl) (pe_op op_sub pe_int (pv 6)))
      (pss_one (ps_set (i := 7) sc_row.nd rfl (Or.inl rfl) (pe_op op_add pe_int (pe_call G_draw (hr.mono (by decide)) (by rfl) T.g_draw T.F_draw.kp T.b_draw .nil pass0 (pa_cons (pv 0) (pa_cons (pv 5) pa_nil))))))) pss_nil)
      (pss_cons (ps_asg (pe_ix ix_str pe_str (pv 6) (fun _ _ => rfl)) (pg_sub (pv 4) (pv 8) set_list))
      (pss_one (ps_set (i := 7) sc_row.nd rfl (Or.inl rfl) (pe_op op_sub (pv 7) pe_int)))))))))) pss_nil)
      (Evl.pss_cut (ps_if (pt_cmpR op_eq (pv 3) pe_int (nomark _))
      (pss_cons (ps_set (i := 4) sc_row.nd rfl (Or.inl rfl) (pe_callTy (call_list_str rfl) (by rfl) T.z_list (by decide +kernel) (pa_cons (pv 2) pa_nil)))
      (pss_one (ps_for PassesOwn.never rfl (pi_range1 (by rfl) T.z_range (pa_cons pe_int pa_nil)) (pg_name (i := 9) sc_row.nd rfl (Or.inl rfl))
      (pss_one (ps_asg (pe_ix ix_str pe_str (pe_call G_draw (hr.mono (by decide)) (by rfl) T.g_draw T.F_draw.kp T.b_draw .nil pass0 (pa_cons (pv 0) (pa_cons pe_int pa_nil))) (fun _ _ => rfl)) (pg_sub (pv 4) (pe_call G_draw (hr.mono (by decide)) (by rfl) T.g_draw T.F_draw.kp T.b_draw .nil pass0 (pa_cons (pv 0) (pa_cons (pv 1) pa_nil))) set_list)))))) pss_nil)
      (pss_one (ps_ret (pe_join pe_str (pv 4))))))))), ?_⟩
    -- way, row_here
    refine ⟨_, rfl, b, 4, rfl, hb, by decide, by decide, fun way H1 w0 w1 bx1 => ?_⟩
    refine ⟨_, rfl, b, 2, rfl, bx1.1, by decide, by decide, fun d H2 d0 d1 bx2 => ⟨_, _, _, rfl, rfl, two_len, cell_at d0 d1, (by show 1 ≤ sizeLine; decide), fun p1 hp1 => ⟨_, rfl, _, _, _, rfl, rfl, upd_same, by omega, by omega, ?_, fun p hp => ?_⟩⟩⟩
    · show 1 * (m : Int).toNat ≤ sizeLine
      exact sz (by omega)
    have bx3 : Bx b H (upd H2 p1 (.lst [.str ⟨#[cellN d]⟩])) := (bx1.trans bx2).same (same_new hp1)
    have R0 : RM b m up way H [some (.ref b), some (.int (m : Int)), some (.str (sOf up)), some (.int way), some (.ref p), none, none, none, none, none] (upd (upd H2 p1 (.lst [.str ⟨#[cellN d]⟩])) p (.lst (List.replicate (m : Int).toNat [V.str ⟨#[cellN d]⟩]).flatten)) := by
      refine ⟨p, List.replicate m (cellN d), none, none, none, none, none, rfl, ?_, bx3.free hp, List.length_replicate, Row.rep (cellN_cell d), bx3.same (same_new hp)⟩
      rw [upd_same]
      exact congrArg (fun z => some (HO.lst z)) (rep_one m (cellN d))
    refine ⟨RM b m up way H, ?_, ?_⟩
    · -- way 0
      refine ⟨_, rfl, rfl, _, rfl, ite2 (fun e => ?_) (fun e => R0)⟩
      obtain ⟨_, _, _, _, _, _, _, _, _, _, _, _, bx4⟩ := R0
      refine ⟨_, rfl, _, rfl, by omega, by omega, fun D hD => lc_range (lo := 0) (n := m) (fun i H' => ∃ l, H' D = some (.lst (cells l)) ∧ l.length = i ∧ Row l ∧ Bx b H H') ⟨[], upd_same, rfl, Row.nil, bx4.same (same_new hD)⟩ ?_ ?_⟩
      · rintro i H' hi ⟨l, hl, ll, rl, bx5⟩
        have nD : D ≠ b := BagAt.ne bx4.1 hD
        have fD : H D = none := bx4.free hD
        refine ⟨rfl, _, rfl, b, 2, rfl, bx5.1, by decide, by decide, fun d2 H5 e0 e1 bx6 => ⟨_, _, _, rfl, rfl, two_len, cell_at e0 e1, _, bx6.2 _ _ nD hl, ?_, l ++ [cellN d2], ?_, ?_, rl.app (cellN_cell d2), (bx5.trans bx6).mut fD nD⟩⟩
        · rw [cells_len]
          exact szl (by omega)
        · rw [upd_same]
          exact congrArg (fun z => some (HO.lst z)) (cells_app l (cellN d2))
        · rw [List.length_append, ll]
          rfl
      · rintro H' ⟨l, hl, ll, rl, bx5⟩
        exact ⟨D, l, _, _, _, _, _, rfl, hl, bx4.free hD, ll, rl, bx5⟩
    · rintro σ H3 ⟨p, l, y5, y6, y7, y8, y9, rfl, hp, fp, ll, rl, bx⟩
      refine ⟨RM b m up way H, ?_, ?_⟩
      · -- way 1
        refine ⟨_, rfl, rfl, _, rfl, ite2 (fun e => ?_) (fun e => ⟨p, l, y5, y6, y7, y8, y9, rfl, hp, fp, ll, rl, bx⟩)⟩
        have nP : p ≠ b := BagAt.ne hb fp
        refine ⟨_, rfl, _, rfl, b, _, rfl, bx.1, by omega, by omega, fun most H4 o0 o1 bx4 => ⟨_, _, rfl, rfl, ?_⟩⟩
        refine ⟨_, rfl, b, 2, rfl, bx4.1, by decide, by decide, fun col H5 c0 c1 bx5 => ?_⟩
        refine ⟨_, rfl, _, rfl, by omega, by omega, for_range (lo := 0) (n := m) (fun i σ H' => ∃ (l : List Nat) (c left : Int) (y8 : Option V), σ = [some (.ref b), some (.int (m : Int)), some (.str (sOf up)), some (.int way), some (.ref p), some (.int (1 + most)), some (.int c), some (.int left), y8, y9] ∧ 0 ≤ c ∧ c < 2 ∧ H' p = some (.lst (cells l)) ∧ l.length = m ∧ Row l ∧ Bx b H H')
          ⟨l, col, 0, y8, rfl, c0, c1, bx5.2 _ _ nP (bx4.2 _ _ nP hp), ll, rl, (bx.trans bx4).trans bx5⟩ ?_ ?_⟩
        · rintro i σ H' hi ⟨l, c, left, y8, rfl, c0, c1, hp, ll, rl, bx⟩
          refine ⟨fun σ H' => ∃ (c left : Int) (y8 : Option V), σ = [some (.ref b), some (.int (m : Int)), some (.str (sOf up)), some (.int way), some (.ref p), some (.int (1 + most)), some (.int c), some (.int left), some (.int (0 + (i : Int))), y9] ∧ 0 ≤ c ∧ c < 2 ∧ H' p = some (.lst (cells l)) ∧ Bx b H H', ?_, ?_⟩
          · refine ⟨_, rfl, rfl, _, rfl, ite2 (fun e => ?_) (fun e => ⟨c, left, y8, rfl, c0, c1, hp, bx⟩)⟩
            refine ⟨_, rfl, _, _, rfl, rfl, ?_⟩
            refine ⟨_, rfl, _, rfl, b, _, rfl, bx.1, by omega, by omega, fun d H6 e0 e1 bx6 => ⟨_, _, rfl, rfl, ?_⟩⟩
            exact ⟨1 - c, 1 + d, y8, rfl, by omega, by omega, bx6.2 _ _ nP hp, bx.trans bx6⟩
          · rintro σ H' ⟨c, left, _, rfl, c0, c1, hp, bx⟩
            refine ⟨_, rfl, _, _, _, rfl, rfl, two_len, cell_at c0 c1, _, rfl, _, rfl, _, _, _, _, rfl, rfl, hp, (by rw [Int.zero_add]; exact Evl.ixN_nat (by rw [cells_len]; omega)), ?_⟩
            refine ⟨_, rfl, _, _, rfl, rfl, ?_⟩
            refine ⟨l.set i (cellN c), c, left - 1, some (.int (0 + (i : Int))), rfl, c0, c1, ?_, ?_, rl.set (cellN_cell c), bx.mut fp nP⟩
            · rw [upd_same]
              exact congrArg (fun z => some (HO.lst z)) (cells_set l i (cellN c))
            · rw [List.length_set]
              exact ll
        · rintro σ H' ⟨l, c, left, y8, rfl, c0, c1, hp, ll, rl, bx⟩
          exact ⟨p, l, _, _, _, _, _, rfl, hp, fp, ll, rl, bx⟩
      · rintro σ H3 ⟨p, l, y5, y6, y7, y8, y9, rfl, hp, fp, ll, rl, bx⟩
        refine ⟨RM b m up way H, ?_, ?_⟩
        · -- way 2
          refine ⟨_, rfl, rfl, _, rfl, ite2 (fun e => ?_) (fun e => ⟨p, l, y5, y6, y7, y8, y9, rfl, hp, fp, ll, rl, bx⟩)⟩
          refine ⟨_, rfl, up, rfl, by omega, fun p2 hp2 => ?_⟩
          have f2 : H p2 = none := bx.free hp2
          have n2 : p2 ≠ b := BagAt.ne bx.1 hp2
          refine ⟨_, rfl, by decide, by decide, for_range (lo := 0) (n := 3) (fun i σ H' => ∃ (l : List Nat) (y9 : Option V), σ = [some (.ref b), some (.int (m : Int)), some (.str (sOf up)), some (.int way), some (.ref p2), y5, y6, y7, y8, y9] ∧ H' p2 = some (.lst (cells l)) ∧ l.length = m ∧ Row l ∧ Bx b H H')
            ⟨up, y9, rfl, upd_same, lu, ru, bx.same (same_new hp2)⟩ ?_ ?_⟩
          · rintro i σ H' hi ⟨l, y9, rfl, hp, ll, rl, bx⟩
            refine ⟨_, rfl, b, 2, rfl, bx.1, by decide, by decide, fun d H5 d0 d1 bx5 => ⟨_, _, _, rfl, rfl, two_len, cell_at d0 d1, _, rfl, _, rfl, _, rfl, b, _, rfl, bx5.1, by omega, by omega, fun j H6 j0 j1 bx6 => ?_⟩⟩
            obtain ⟨k, rfl⟩ := Int.eq_ofNat_of_zero_le j0
            refine ⟨_, _, _, k, rfl, rfl, bx6.2 _ _ n2 (bx5.2 _ _ n2 hp), Evl.ixN_nat (by rw [cells_len]; omega), ?_⟩
            refine ⟨l.set k (cellN d), _, rfl, ?_, ?_, rl.set (cellN_cell d), ((bx.trans bx5).trans bx6).mut f2 n2⟩
            · rw [upd_same]
              exact congrArg (fun z => some (HO.lst z)) (cells_set l k (cellN d))
            · rw [List.length_set]
              exact ll
          · rintro σ H' ⟨l, y9, rfl, hp, ll, rl, bx⟩
            exact ⟨p2, l, _, _, _, _, _, rfl, hp, f2, ll, rl, bx⟩
        · rintro σ H3 ⟨p, l, y5, y6, y7, y8, y9, rfl, hp, fp, ll, rl, bx⟩
          refine ⟨⟨_, rfl⟩, _, rfl, _, _, l.map fun c => sOf [c], rfl, rfl, .inl (SqL.of (by rw [← cells_strs]; exact hp)), join_size (by omega), ?_⟩
          rw [join_cells]
          exact q l H3 ll rl bx

def iV (k : Nat) : V := .int (k : Int)
def spFirst : Sp := fun vs H Q _ => ∃ (l : List Nat) (c s : Nat) (x : Int), vs = [.str (sOf l), .str (sOf [c]), .int x] ∧ x = s ∧ l.length ≤ 100000 ∧ Q (.int (fp l c s : Int)) H
theorem ok_first_place {A : Ad} (T : Txt w K mg base A) : FnOk P w K mg base CX0 1 A.a_first_place A.d_first_place P_first_place spFirst := by
  refine T.F_first_place.ok sc_first_place (fun vs H Q E h => ?_) (fun cdv Ar outer s H vs Q E hr h => ?_)
  · obtain ⟨l, c, s, x, rfl, _⟩ := h
    rfl
  · obtain ⟨l, c, st, _, rfl, rfl, ll, q⟩ := h
    refine ⟨_, (pss_cons (ps_set (i := 3) sc_first_place.nd rfl (Or.inl rfl) (pe_bm PySem.F.plainAttrs_str PySem.F.slot_str_find PySem.F.type_str_find mt_find3 (pv 0) (pa_cons (pv 1) (pa_cons (pv 2) pa_nil))))
      (pss_one (ps_ret (pe_ifExp (pt_cmpR op_lt (pv 3) pe_int (nomark _)) (pe_callB call_len_str (by rfl) T.z_len PySem.boot_len (pa_cons (pv 0) pa_nil)) (pv 3))))), ?_⟩
    have hl : (sOf l).length ≤ sizeLine := by
      rw [sOf_len]
      exact sz ll
    refine ⟨_, rfl, rfl, _, rfl, _, rfl, _, _, _, rfl, rfl, ?_⟩
    refine ⟨_, rfl, _, _, rfl, rfl, _, rfl, ite2 (fun e => ?_) (fun e => ?_)⟩
    · have e := of_decide_eq_true e
      refine ⟨_, rfl, _, rfl, hl, ?_⟩
      rw [sOf_len]
      rcases find3_fp l c st with ⟨_, h⟩ | h
      · rw [← h]
        exact q
      · rw [h] at e
        omega
    · have e : ¬ (Txt.find3 (sOf l) (sOf [c]) (st : Int) < 0) := fun z => e (decide_eq_true z)
      refine ⟨_, rfl, ?_⟩
      rcases find3_fp l c st with ⟨h, _⟩ | h
      · exact absurd h e
      · rw [h]
        exact q
def spOther : Sp := fun vs H Q _ => ∃ (c : Nat), vs = [.str (sOf [c])] ∧ Q (.str (sOf [oth c])) H
theorem ok_other_cell {A : Ad} (T : Txt w K mg base A) : FnOk P w K mg base CX0 1 A.a_other_cell A.d_other_cell P_other_cell spOther := by
  refine T.F_other_cell.ok sc_other_cell (fun vs H Q E h => ?_) (fun cdv Ar outer s H vs Q E hr h => ?_)
  · obtain ⟨c, rfl, _⟩ := h
    rfl
  · obtain ⟨c, rfl, q⟩ := h
    refine ⟨_, (pss_one (ps_ret (pe_ifExp (pt_cmpR op_eq (pv 0) (pe_glob (v := .str (Str.ofString ".")) (by rfl) T.c_LIGHT ⟨_, rfl⟩) (nomark _)) (pe_glob (v := .str (Str.ofString "#")) (by rfl) T.c_DARK ⟨_, rfl⟩) (pe_glob (v := .str (Str.ofString ".")) (by rfl) T.c_LIGHT ⟨_, rfl⟩)))), ?_⟩
    unfold oth at q
    have key : decide (V.str (sOf [c]) = V.str (Str.ofString ".")) = decide (c = 46) := decide_eq_decide.mpr ⟨fun h => by
      have h2 : sOf [c] = sOf [46] := V.str.inj h
      have := sOf_inj h2
      simp_all, fun h => by rw [h]; rfl⟩
    refine ⟨_, rfl, rfl, _, rfl, ite2 (fun e => ?_) (fun e => ?_)⟩
    · rw [key] at e
      rw [if_pos (of_decide_eq_true e)] at q
      exact q
    · rw [key] at e
      rw [if_neg (fun z => e (decide_eq_true z))] at q
      exact q

def RunsW (l : List Nat) (p : Addr) (H : Hp) (m : Nat) (σ : L2.St) (H' : Hp) : Prop := ∃ (pl c : Nat) (rs : List Nat) (y4 : Option V), σ = [some (.str (sOf l)), some (.ref p), some (.str (sOf [c])), some (.int (pl : Int)), y4] ∧ m = 2 * (l.length - pl) + (if c = 46 then 1 else 0) ∧ Cell c ∧ pl ≤ l.length ∧ Same H H' ∧ H' p = some (.lst (rs.map iV)) ∧ rs ++ (if pl = l.length then [] else runsFrom (l.drop pl) c 0) = runsL l ∧ ((c = 46 ∧ pl = 0) ∨ (pl < l.length → l[pl]? = some c))
def spRuns : Sp := fun vs H Q _ => ∃ (l : List Nat), vs = [.str (sOf l)] ∧ Row l ∧ 0 < l.length ∧ l.length ≤ 1000 ∧ ∀ p H', H p = none → Same H H' → H' p = some (.lst ((runsL l).map iV)) → Q (.ref p) H'
theorem ok_runs_of {A : Ad} (T : Txt w K mg base A) : FnOk P w K mg base CX0 2 A.a_runs_of A.d_runs_of P_runs_of spRuns := by
  have G_first_place := ok_first_place (P := P) (w := w) (base := base) T
  have G_other_cell := ok_other_cell (P := P) (w := w) (base := base) T
  refine T.F_runs_of.ok sc_runs_of (fun vs H Q E h => ?_) (fun cdv Ar outer s H vs Q E hr h => ?_)
  · obtain ⟨l, rfl, _⟩ := h
    rfl
  · obtain ⟨l, rfl, rl, l0, l1, q⟩ := h
    refine ⟨_, (pss_cons (ps_set (i := 1) sc_runs_of.nd rfl (Or.inl rfl) (pe_lst pa_nil))
      (pss_cons (ps_set (i := 2) sc_runs_of.nd rfl (Or.inl rfl) (pe_glob (v := .str (Str.ofString ".")) (by rfl) T.c_LIGHT ⟨_, rfl⟩))
      (pss_cons (ps_set (i := 3) sc_runs_of.nd rfl (Or.inl rfl) pe_int)
      (pss_cons (ps_while PassesOwn.never (pt_cmpR op_lt (pv 3) (pe_callB call_len_str (by rfl) T.z_len PySem.boot_len (pa_cons (pv 0) pa_nil)) (nomark _))
      (pss_cons (ps_set (i := 4) sc_runs_of.nd rfl (Or.inl rfl) (pe_call G_first_place (hr.mono (by decide)) (by rfl) T.g_first_place T.F_first_place.kp T.b_first_place .nil pass0 (pa_cons (pv 0) (pa_cons (pe_call G_other_cell (hr.mono (by decide)) (by rfl) T.g_other_cell T.F_other_cell.kp T.b_other_cell .nil pass0 (pa_cons (pv 2) pa_nil)) (pa_cons (pv 3) pa_nil)))))
      (pss_cons (ps_expr (pe_bm PySem.F.plainAttrs_list PySem.F.slot_list_append PySem.F.type_list_append mt_append (pv 1) (pa_cons (pe_op op_sub (pv 4) (pv 3)) pa_nil)))
      (pss_cons (ps_set (i := 3) sc_runs_of.nd rfl (Or.inl rfl) (pv 4))
      (pss_one (ps_set (i := 2) sc_runs_of.nd rfl (Or.inl rfl) (pe_call G_other_cell (hr.mono (by decide)) (by rfl) T.g_other_cell T.F_other_cell.kp T.b_other_cell .nil pass0 (pa_cons (pv 2) pa_nil))))))))
      (pss_one (ps_ret (pv 1))))))), ?_⟩
    have hl : (sOf l).length ≤ sizeLine := by
      rw [sOf_len]
      exact sz (by omega)
    refine ⟨(by show 0 ≤ sizeLine; decide), fun p hp => ?_⟩
    refine ⟨RunsW l p H, ⟨_, 0, 46, [], none, rfl, rfl, .inl rfl, by omega, same_new hp, upd_same, ?_, .inl ⟨rfl, rfl⟩⟩, ?_⟩
    · rw [if_neg (by omega)]
      rfl
    · rintro m σ H1 ⟨pl, c, rs, y4, rfl, rfl, hc, hpl, sm, hp1, hrs, hat⟩
      refine ⟨_, rfl, _, rfl, _, rfl, hl, _, _, rfl, rfl, _, rfl, ?_⟩
      refine ite2 (fun e => ?_) (fun e => ?_)
      · have lt : pl < l.length := by
          have := of_decide_eq_true e
          rw [sOf_len] at this
          omega
        have lrs := runs_len rl
        rw [if_neg (by omega), runs_at hc hpl] at hrs
        have hfp := fp_spec (l := l) (c := oth c) hpl
        have lrs2 : rs.length ≤ l.length := by
          have := congrArg List.length hrs
          rw [List.length_append, List.length_cons] at this
          omega
        have nxt : pl < fp l (oth c) pl ∨ (c = 46 ∧ pl = 0) := by
          rcases hat with h | h
          · exact .inr h
          · left
            by_cases e3 : fp l (oth c) pl = pl
            · have h4 := hfp.2.2.2 (by omega)
              rw [e3, h lt] at h4
              exact absurd (Option.some.inj h4).symm (oth_ne hc)
            · omega
        refine ⟨fun σ' H' => ∃ m', m' < 2 * (l.length - pl) + (if c = 46 then 1 else 0) ∧ RunsW l p H m' σ' H', fun σ' H' h => h, ?_⟩
        refine ⟨_, rfl, _, rfl, c, rfl, _, rfl, l, oth c, pl, _, rfl, rfl, by omega, ?_⟩
        refine ⟨_, rfl, .inl ⟨rfl, _, SqL.of hp1⟩, _, rfl, _, rfl, _, _, rfl, rfl, p, _, _, rfl, rfl, hp1, (by rw [List.length_map]; exact szl (by omega)), ?_⟩
        refine ⟨_, rfl, _, rfl, c, rfl, ?_⟩
        refine ⟨_, ?_, fp l (oth c) pl, oth c, rs ++ [fp l (oth c) pl - pl], _, rfl, rfl, oth_cell c, hfp.2.1, Same.mut sm hp, ?_, ?_, .inr fun h => hfp.2.2.2 h⟩
        · rcases nxt with h | ⟨h, h2⟩
          · have h6 : (if oth c = 46 then 1 else 0) ≤ 1 := by split <;> omega
            have h5 : fp l (oth c) pl ≤ l.length := hfp.2.1
            show 2 * (l.length - fp l (oth c) pl) + (if oth c = 46 then 1 else 0) < _
            omega
          · subst h
            rw [if_pos rfl, show oth 46 = 35 from rfl, if_neg (by decide)]
            have := hfp.1
            show 2 * (l.length - fp l 35 pl) + 0 < _
            have h3 : pl ≤ fp l 35 pl := hfp.1
            omega
        · rw [upd_same, List.map_append]
          have e9 : V.int ((fp l (oth c) pl : Int) - (pl : Int)) = iV (fp l (oth c) pl - pl) := by
            unfold iV
            have := hfp.1
            congr 1
            omega
          show some (HO.lst (rs.map iV ++ [V.int ((fp l (oth c) pl : Int) - (pl : Int))])) = _
          rw [e9]
          rfl
        · rw [List.append_assoc]
          exact hrs
      · have ge : pl = l.length := by
          have : ¬ ((pl : Int) < ((sOf l).length : Int)) := fun z => e (decide_eq_true z)
          rw [sOf_len] at this
          omega
        refine ⟨_, rfl, ?_⟩
        rw [if_pos ge, List.append_nil] at hrs
        rw [hrs] at hp1
        exact q p H1 hp sm hp1

theorem int_yes : PySem.W.kitOne K (.type "int") (.type "int") = some true := kit_ty (by decide +kernel)
theorem int_nob : PySem.W.kitOne K (.type "int") (.type "bool") = some false := kit_ty (by decide +kernel)
theorem list_yes : PySem.W.kitOne K (.type "list") (.type "list") = some true := kit_ty (by decide +kernel)
def spWhole : Sp := fun vs H Q _ => ∃ i : Int, vs = [.int i] ∧ Q (.bl true) H
theorem ok_whole {A : Ad} (T : Txt w K mg base A) : FnOk P w K mg base CX0 1 A.a_whole A.d_whole P_whole spWhole := by
  refine T.F_whole.ok sc_whole (fun vs H Q E h => ?_) (fun cdv Ar outer s H vs Q E hr h => ?_)
  · obtain ⟨i, rfl, _⟩ := h
    rfl
  · obtain ⟨i, rfl, q⟩ := h
    refine ⟨_, (pss_one (ps_ret (pe_and (pe_callB (r := rIsi K) call_isi (by rfl) T.z_isinstance (by decide +kernel) (pa_cons (pv 0) (pa_cons (pe_bltn (v := .ty "int") (by rfl) T.z_int (by decide +kernel) rfl) pa_nil))) (pe_one (pe_not (pe_callB (r := rIsi K) call_isi (by rfl) T.z_isinstance (by decide +kernel) (pa_cons (pv 0) (pa_cons (pe_bltn (v := .ty "bool") (by rfl) T.z_bool (by decide +kernel) rfl) pa_nil)))))))), ?_⟩
    refine ⟨_, rfl, _, _, _, _, true, rfl, ClsV.ty _, TyX.base (.int _), int_yes, _, rfl, ?_⟩
    refine ⟨_, rfl, _, _, _, _, false, rfl, ClsV.ty _, TyX.base (.int _), int_nob, _, rfl, ?_⟩
    exact q
theorem rep_more (i : Nat) : (List.replicate i true).map V.bl ++ [V.bl true] = (List.replicate (i + 1) true).map V.bl := by
  rw [List.replicate_succ', List.map_append]
  rfl
theorem rep_all (n : Nat) : (List.replicate n true).all id = true := by
  rw [List.all_eq_true]
  intro x hx
  exact (List.mem_replicate.mp hx).2
def iD (ns : List Nat) : List PyData := ns.map fun (n : Nat) => PyData.int (n : Int)
theorem dp_ints {H : Hp} : ∀ ns : List Nat, DpAll K H (ns.map iV) (iD ns)
  | [] => .nil
  | n :: r => .cons (.int _) (dp_ints r)
theorem lay_ints : ∀ ns : List Nat, PyData.canLayAll0 (iD ns) = true
  | [] => by simp [iD, PyData.canLayAll0]
  | n :: r => by
    have h := lay_ints r
    unfold iD at h ⊢
    simp only [List.map_cons, PyData.canLayAll0, PyData.canLay0, h, Bool.and_true]
theorem depth_ints : ∀ ns : List Nat, PyData.depthAll (iD ns) = 0
  | [] => by simp [iD, PyData.depthAll]
  | n :: r => by
    have h := depth_ints r
    unfold iD at h ⊢
    simp only [List.map_cons, PyData.depthAll, h, PyData.depth]
    rfl
theorem shaped_ints (ns : List Nat) : SeqAt.shaped (.list (iD ns)) = true := by
  show (PyData.canLay0 (.list (iD ns)) && decide (PyData.depth (.list (iD ns)) ≤ 64)) = true
  rw [Bool.and_eq_true]
  refine ⟨by simp only [PyData.canLay0]; exact lay_ints ns, decide_eq_true ?_⟩
  simp only [PyData.depth, depth_ints]
  omega
theorem eqv_ints (ns : List Nat) : PyData.eqv (.list (iD ns)) (.list (iD ns)) = true := SeqAt.eqv_refl _ (by simp only [PyData.canLay0]; exact lay_ints ns)
def spGood : Sp := fun vs H Q _ => ∃ (l : List Nat), vs = [.str (sOf l)] ∧ Row l ∧ 0 < l.length ∧ l.length ≤ 64 ∧ ∀ H', Same H H' → Q (.bl true) H'
theorem ok_good {A : Ad} (T : Txt w K mg base A) : FnOk P w K mg base CX0 3 A.a_good A.d_good P_good spGood := by
  have G_runs_of := ok_runs_of (P := P) (w := w) (base := base) T
  have G_whole := ok_whole (P := P) (w := w) (base := base) T
  refine T.F_good.ok sc_good (fun vs H Q E h => ?_) (fun cdv Ar outer s H vs Q E hr h => ?_)
  · obtain ⟨l, rfl, _⟩ := h
    rfl
  · obtain ⟨l, rfl, rl, l0, l1, q⟩ := h
    refine ⟨_, (pss_cons (ps_set (i := 1) sc_good.nd rfl (Or.inl rfl) (pe_call G_runs_of (hr.mono (by decide)) (by rfl) T.g_runs_of T.F_runs_of.kp T.b_runs_of .nil pass0 (pa_cons (pv 0) pa_nil)))
      (pss_cons (ps_if (PW.pt (pw_or (pt_not (pt_val (pe_callB (r := rIsi K) call_isi (by rfl) T.z_isinstance (by decide +kernel) (pa_cons (pv 1) (pa_cons (pe_bltn (v := .ty "list") (by rfl) T.z_list (by decide +kernel) rfl) pa_nil))))) (pw_or1 (pt_not (pt_val (pe_callB (cr_all rfl) (by rfl) T.z_all (by decide +kernel) (pa_cons (pe_lc (own := [("_law_run", 5)]) (g := gName 5) (tt := tYes) (by rfl) sc_good.nd (pi_list (pv 1)) (blkOk_by (own := [("_law_run", 5)]) (N := N_good) (sc := defScope s_good) (by decide +kernel)) (fun _ _ _ _ _ => pg_name (i := 5) sc_good.nd rfl (Or.inl rfl)) (fun _ _ _ _ _ => pts_nil) (fun _ _ _ _ _ => (pe_and (pe_call G_whole (hr.mono (by decide)) (by rfl) T.g_whole T.F_whole.kp T.b_whole .nil pass0 (pa_cons (pv 5) pa_nil)) (pe_one (pe_cmpR op_ge (pv 5) pe_int (nomark _)))))) pa_nil)))))))
      (pss_one (ps_ret pe_bl)) pss_nil)
      (pss_cons (ps_if (PW.pt (pw_or (pt_not (pt_val (pe_callB (cr_all rfl) (by rfl) T.z_all (by decide +kernel) (pa_cons (pe_lc (own := [("_law_run", 5)]) (g := gName 5) (tt := tYes) (by rfl) sc_good.nd (pi_list (pe_slice sl_list (pv 1) (po_some pe_int) po_none)) (blkOk_by (own := [("_law_run", 5)]) (N := N_good) (sc := defScope s_good) (by decide +kernel)) (fun _ _ _ _ _ => pg_name (i := 5) sc_good.nd rfl (Or.inl rfl)) (fun _ _ _ _ _ => pts_nil) (fun _ _ _ _ _ => (pe_cmpR op_gt (pv 5) pe_int (nomark _)))) pa_nil)))) (pw_or1 (pt_cmpR (op_eqD hr.units) (pv 1) (pe_lst pa_nil) (nomark _)))))
      (pss_one (ps_ret pe_bl)) pss_nil)
      (pss_cons (ps_set (i := 2) sc_good.nd rfl (Or.inl rfl) pe_str)
      (pss_cons (ps_for PassesOwn.never rfl (pi_range1 (by rfl) T.z_range (pa_cons (pe_callB (r := fun xs H Q => ∃ p ys, xs = [.ref p] ∧ (SqL K H p ys ∨ SqT K H p ys) ∧ Q (.int ys.length) H) call_len_seq (by rfl) T.z_len PySem.boot_len (pa_cons (pv 1) pa_nil)) pa_nil)) (pg_name (i := 3) sc_good.nd rfl (Or.inl rfl))
      (pss_one (ps_set (i := 2) sc_good.nd rfl (Or.inl rfl) (pe_op op_add_str (pv 2) (pe_op op_mul_str (pe_ix ix_str pe_str (pe_op op_sub (pv 3) (pe_op op_mul (pe_op op_fdiv (pv 3) pe_int) pe_int)) (fun _ _ => rfl)) (pe_callB (call_min2 rfl) (by rfl) T.z_min (by decide +kernel) (pa_cons (pe_ix (r := rIxL K) ix_list (pv 1) (pv 3) (fun _ _ => rfl)) (pa_cons pe_int pa_nil))))))))
      (pss_cons (ps_set (i := 4) sc_good.nd rfl (Or.inl rfl) (pe_callTy call_list_of (by rfl) T.z_list (by decide +kernel) (pa_cons (pv 1) pa_nil)))
      (pss_cons (ps_expr (pe_bm PySem.F.plainAttrs_list PySem.F.slot_list_append PySem.F.type_list_append mt_append (pv 1) (pa_cons pe_int pa_nil)))
      (pss_cons (ps_asg pe_int (pg_sub (pv 1) pe_int set_list))
      (pss_one (ps_ret (pe_and (pe_cmpR op_eq (pv 2) (pv 0) (nomark _)) (pe_one (pe_cmpR (op_eqD hr.units) (pe_call G_runs_of (hr.mono (by decide)) (by rfl) T.g_runs_of T.F_runs_of.kp T.b_runs_of .nil pass0 (pa_cons (pv 0) pa_nil)) (pv 4) (nomark _)))))))))))))), ?_⟩
    refine ⟨_, rfl, l, rfl, rl, l0, by omega, fun p H1 np s1 hp => ?_⟩
    have lr := runs_len rl
    have rne : runsL l ≠ [] := runsFrom_ne l 46 0
    have getR : ∀ {j : Nat} {x : V} {rs : List Nat}, (rs.map iV)[j]? = some x → ∃ k, rs[j]? = some k ∧ iV k = x := by
      intro j x rs hx
      rw [List.getElem?_map] at hx
      cases e : rs[j]? with
      | none =>
        rw [e] at hx
        cases hx
      | some k =>
        rw [e] at hx
        exact ⟨k, rfl, Option.some.inj hx⟩
    refine ⟨_, rfl, _, _, _, _, true, rfl, ClsV.ty _, TyX.base (.lst hp), list_yes, _, rfl, ?_⟩
    refine ⟨_, rfl, p, rfl, ⟨_, SqL.of hp⟩, fun D hD => lc_list (K := K) (a := p) (xs := (runsL l).map iV) (fun i H' => Same H1 H' ∧ H' D = some (.lst ((List.replicate i true).map V.bl))) ⟨same_new hD, upd_same⟩ (fun i H' _ hh => SqL.of (hh.1 _ _ hp)) ?_ ?_⟩
    · rintro j x H2 hx ⟨sm, hD2⟩
      obtain ⟨k, hk, rfl⟩ := getR hx
      have jl := (List.getElem?_eq_some_iff.mp hk).1
      refine ⟨rfl, _, rfl, _, rfl, _, rfl, _, rfl, _, _, rfl, rfl, _, hD2, ?_, Same.mut sm hD, ?_⟩
      · rw [List.length_map, List.length_replicate]
        exact szl (by omega)
      · rw [upd_same, ← rep_more]
        congr 4
    rintro H2 ⟨sm2, hD2⟩
    refine ⟨_, _, rfl, SqL.of hD2, _, rfl, ?_⟩
    rw [rep_all]
    have hp2 := sm2 _ _ hp
    refine ⟨_, rfl, _, rfl, _, _, rfl, SqL.of hp2, fun p3 hp3 => ?_⟩
    rw [cut1, ← List.map_drop]
    refine ⟨p3, rfl, ⟨_, SqL.of upd_same⟩, fun D hD => lc_list (K := K) (a := p3) (xs := ((runsL l).drop 1).map iV) (fun i H' => Same (upd H2 p3 (.lst (((runsL l).drop 1).map iV))) H' ∧ H' D = some (.lst ((List.replicate i true).map V.bl))) ⟨same_new hD, upd_same⟩ (fun i H' _ hh => SqL.of (hh.1 _ _ upd_same)) ?_ ?_⟩
    · rintro j x H3 hx ⟨sm, hD3⟩
      obtain ⟨k, hk, rfl⟩ := getR hx
      have jl := (List.getElem?_eq_some_iff.mp hk).1
      rw [List.length_drop] at jl
      refine ⟨rfl, _, rfl, _, _, rfl, rfl, _, hD3, ?_, Same.mut sm hD, ?_⟩
      · rw [List.length_map, List.length_replicate]
        exact szl (by omega)
      · rw [upd_same, ← rep_more]
        congr 4
        have := runs_pos (l := l) (k := 0) (c := 46) (.inl rfl) k (List.mem_of_getElem? hk)
        show V.bl (decide ((0 : Int) < (k : Int))) = V.bl true
        rw [decide_eq_true (by omega)]
    rintro H3 ⟨sm3, hD3⟩
    refine ⟨_, _, rfl, SqL.of hD3, _, rfl, ?_⟩
    rw [rep_all]
    have s3 : Same H1 H3 := (sm2.trans (same_new hp3)).trans sm3
    have hp4 := s3 _ _ hp
    refine ⟨_, rfl, (by show 0 ≤ sizeLine; decide), fun pe hpe => ?_⟩
    have s4 : Same H1 (upd H3 pe (.lst [])) := s3.trans (same_new hpe)
    have hp5 := s4 _ _ hp
    refine ⟨_, _, .lst (SqL.of hp5) (dp_ints _), .lst (SqL.of upd_same) .nil, shaped_ints _, (by decide +kernel), _, rfl, ?_⟩
    have ene : PyData.eqv (.list (iD (runsL l))) (.list []) = false := by
      cases e : runsL l with
      | nil => exact absurd e rne
      | cons a r => rfl
    rw [ene]
    have lm : ((runsL l).map iV).length = (runsL l).length := List.length_map ..
    refine ⟨_, rfl, p, _, rfl, .inl (SqL.of hp5), _, rfl, by omega, by omega, ?_⟩
    rw [show (((runsL l).map iV).length : Int).toNat = (runsL l).length by omega]
    refine for_range (lo := 0) (n := (runsL l).length) (fun i σ H' => ∃ y3 y4 y5 : Option V, σ = [some (.str (sOf l)), some (.ref p), some (.str (sOf (unr ((runsL l).take i) 46))), y3, y4, y5] ∧ H' = upd H3 pe (.lst [])) ⟨_, _, _, rfl, rfl⟩ ?_ ?_
    · rintro i σ H5 hi ⟨y3, y4, y5, rfl, rfl⟩
      have e1 : (runsL l)[i]? = some (runsL l)[i] := List.getElem?_eq_getElem hi
      have le1 := le_sum (List.getElem_mem hi)
      rw [runs_sum rl] at le1
      have ai : atI ((runsL l).map iV) (0 + (i : Int)) = some (iV (runsL l)[i]) := by
        rw [Int.zero_add]
        refine atI_nat ?_
        rw [List.getElem?_map, e1]
        rfl
      have ul : (unr ((runsL l).take i) 46).length ≤ 64 := by
        rw [unr_len]
        have h2 := congrArg List.sum (List.take_append_drop i (runsL l))
        rw [List.sum_append, runs_sum rl] at h2
        omega
      refine ⟨_, rfl, _, rfl, _, rfl, _, _, rfl, rfl, ⟨by decide, by decide⟩, _, _, rfl, rfl, .inr ⟨by decide, by decide⟩, _, _, rfl, rfl, _, _, _, rfl, rfl, two_len, cell_at (by omega) (by omega), _, rfl, _, rfl, _, _, _, _, rfl, rfl, SqL.of hp5, ai, _, _, rfl, ?_⟩
      have em : (if (65 : Int) < ((runsL l)[i] : Int) then (65 : Int) else ((runsL l)[i] : Int)) = ((runsL l)[i] : Int) := if_neg (by omega)
      have ec : cellN (0 + (i : Int) - (0 + (i : Int)) / 2 * 2) = colr 46 i := by
        rw [colr_mod]
        unfold cellN
        by_cases h : i % 2 = 0
        · rw [if_pos h, if_pos (by omega)]
        · rw [if_neg h, if_neg (by omega)]
      rw [ec]
      show ∃ c n, _
      refine ⟨colr 46 i, _, rfl, rfl, ?_, ?_⟩
      · show -100000 ≤ (if (65 : Int) < ((runsL l)[i] : Int) then (65 : Int) else ((runsL l)[i] : Int)) ∧ _ ≤ _
        rw [em]
        constructor <;> omega
      refine ⟨_, _, rfl, rfl, ?_, ?_⟩
      · show (sOf _).length + (sOf (List.replicate (if (65 : Int) < ((runsL l)[i] : Int) then (65 : Int) else ((runsL l)[i] : Int)).toNat _)).length ≤ sizeLine
        rw [em, sOf_len, sOf_len, List.length_replicate]
        exact sz (by omega)
      · refine ⟨some (.int (0 + (i : Int))), y4, y5, ?_, rfl⟩
        show List.set _ 2 (some (V.str (sOf (unr ((runsL l).take i) 46) ++ sOf (List.replicate (if (65 : Int) < ((runsL l)[i] : Int) then (65 : Int) else ((runsL l)[i] : Int)).toNat (colr 46 i))))) = _
        rw [em, sOf_app, Int.toNat_natCast, ← unr_more (runsL l) 46 i _ e1]
        rfl
    · rintro σ H5 ⟨y3, y4, y5, rfl, rfl⟩
      rw [List.take_length]
      have eu : unr (runsL l) 46 = l := unr_runs rl (.inl rfl) 0
      rw [eu]
      refine ⟨_, rfl, p, _, rfl, .inl (SqL.of hp5), fun pk hpk => ?_⟩
      have npk : p ≠ pk := ne_of_none hp5 hpk
      have hp6 : upd (upd H3 pe (.lst [])) pk (.lst ((runsL l).map iV)) p = some (.lst ((runsL l).map iV)) := by rw [upd_ne npk]; exact hp5
      refine ⟨_, rfl, .inl ⟨rfl, _, SqL.of hp6⟩, p, _, _, rfl, rfl, hp6, by rw [lm]; exact szl (by omega), ?_⟩
      refine ⟨_, rfl, p, _, _, 0, rfl, rfl, upd_same, Evl.ixN_nat (j := 0) (by rw [List.length_append, lm]; exact Nat.succ_pos _), ?_⟩
      refine ⟨_, rfl, _, rfl, rfl, _, rfl, ?_⟩
      rw [decide_eq_true rfl]
      generalize hH6 : upd (upd (upd (upd H3 pe _) pk _) p _) p _ = H6
      have s6 : Same H H6 := fun b o z => by
        have z1 := s1 _ _ z
        have nb : b ≠ p := ne_of_none z np
        rw [← hH6, upd_ne nb, upd_ne nb, upd_ne (ne_of_none (s4 _ _ z1) hpk)]
        exact s4 _ _ z1
      have hk6 : H6 pk = some (.lst ((runsL l).map iV)) := by
        rw [← hH6, upd_ne npk.symm, upd_ne npk.symm, upd_same]
      refine ⟨_, rfl, l, rfl, rl, l0, by omega, fun p7 H7 np7 s7 hp7 => ?_⟩
      refine ⟨_, rfl, _, _, .lst (SqL.of hp7) (dp_ints _), .lst (SqL.of (s7 _ _ hk6)) (dp_ints _), shaped_ints _, shaped_ints _, ?_⟩
      rw [eqv_ints]
      exact q H7 (s6.trans s7)
def spLaw (K : PySem.W.Frag) : Sp := fun vs H Q _ => ∃ (a : Addr) (ns : List Int), vs = [.ref a] ∧ SqL K H a (ns.map V.int) ∧ ns.length ≤ 63 ∧ ∀ H', Q (.bl true) H'
def Br (x : V) : Prop := ∃ n : Nat, x = .int (n : Int) ∧ 8 ≤ n ∧ n ≤ 64
theorem br_of {i : Int} (h0 : 8 ≤ i) (h1 : i ≤ 64) : Br (.int i) := by
  obtain ⟨n, rfl⟩ := Int.eq_ofNat_of_zero_le (show 0 ≤ i by omega)
  exact ⟨n, rfl, by omega, by omega⟩
theorem pick {xs : List V} (h : ∀ x ∈ xs, Br x) {j : Int} (j0 : 0 ≤ j) (j1 : j < (xs.length : Int)) : ∃ v, atI xs j = some v ∧ Br v := by
  obtain ⟨k, rfl⟩ := Int.eq_ofNat_of_zero_le j0
  have hk : k < xs.length := by omega
  exact ⟨xs[k], atI_nat (List.getElem?_eq_getElem hk), h _ (List.getElem_mem hk)⟩
theorem ok_law {A : Ad} (T : Txt w K mg base A) : FnOk P w K mg base CX0 4 A.a_law A.d_law P_law (spLaw K) := by
  have G_bag := ok_bag (P := P) (w := w) (base := base) T
  have G_draw := ok_draw (P := P) (w := w) (base := base) T
  have G_row := ok_row (P := P) (w := w) (base := base) T
  have G_good := ok_good (P := P) (w := w) (base := base) T
  refine T.F_law.ok sc_law (fun vs H Q E h => ?_) (fun cdv Ar outer s H vs Q E hr h => ?_)
  · obtain ⟨a, ns, rfl, _⟩ := h
    rfl
  · obtain ⟨a, ns, rfl, hS, ln, q⟩ := h
    refine ⟨_, (pss_cons (ps_for PassesOwn.never rfl (pi_range1 (by rfl) T.z_range (pa_cons (pe_callB (call_max2 rfl) (by rfl) T.z_max (by decide +kernel) (pa_cons pe_int (pa_cons (pe_callB (call_min2 rfl) (by rfl) T.z_min (by decide +kernel) (pa_cons pe_int (pa_cons (pe_callB (r := fun xs H Q => ∃ p ys, xs = [.ref p] ∧ (SqL K H p ys ∨ SqT K H p ys) ∧ Q (.int ys.length) H) call_len_seq (by rfl) T.z_len PySem.boot_len (pa_cons (pv 0) pa_nil)) pa_nil))) pa_nil))) pa_nil)) (pg_name (i := 1) sc_law.nd rfl (Or.inl rfl))
      (pss_cons (ps_set (i := 2) sc_law.nd rfl (Or.inl rfl) (pe_call G_bag (hr.mono (by decide)) (by rfl) T.g_bag T.F_bag.kp T.b_bag .nil pass0 (pa_cons (pv 0) (pa_cons (pv 1) pa_nil))))
      (pss_cons (ps_set (i := 3) sc_law.nd rfl (Or.inl rfl) (pe_ix (r := rIxL K) ix_list (pe_lst (pa_cons pe_int (pa_cons pe_int (pa_cons (pe_op op_add pe_int (pe_call G_draw (hr.mono (by decide)) (by rfl) T.g_draw T.F_draw.kp T.b_draw .nil pass0 (pa_cons (pv 2) (pa_cons pe_int pa_nil)))) (pa_cons (pe_op op_add pe_int (pe_call G_draw (hr.mono (by decide)) (by rfl) T.g_draw T.F_draw.kp T.b_draw .nil pass0 (pa_cons (pv 2) (pa_cons pe_int pa_nil)))) pa_nil))))) (pe_call G_draw (hr.mono (by decide)) (by rfl) T.g_draw T.F_draw.kp T.b_draw .nil pass0 (pa_cons (pv 2) (pa_cons pe_int pa_nil))) (fun _ _ => rfl)))
      (pss_cons (ps_set (i := 4) sc_law.nd rfl (Or.inl rfl) (pe_op op_mul_str pe_str (pv 3)))
      (pss_one (ps_for PassesOwn.never rfl (pi_range1 (by rfl) T.z_range (pa_cons pe_int pa_nil)) (pg_name (i := 5) sc_law.nd rfl (Or.inl rfl))
      (pss_cons (ps_set (i := 4) sc_law.nd rfl (Or.inl rfl) (pe_call G_row (hr.mono (by decide)) (by rfl) T.g_row T.F_row.kp T.b_row .nil pass0 (pa_cons (pv 2) (pa_cons (pv 3) (pa_cons (pv 4) pa_nil)))))
      (pss_one (ps_if (pt_not (pt_val (pe_call G_good (hr.mono (by decide)) (by rfl) T.g_good T.F_good.kp T.b_good .nil pass0 (pa_cons (pv 4) pa_nil))))
      (pss_one (ps_ret pe_bl)) pss_nil)))))))))
      (pss_one (ps_ret pe_bl))), ?_⟩
    refine ⟨_, rfl, _, _, rfl, .inl hS, _, _, rfl, _, _, rfl, _, rfl, ?_, ?_, for_range (fun i σ H' => ∃ y1 y2 y3 y4 y5, σ = [some (.ref a), y1, y2, y3, y4, y5] ∧ Same H H') ⟨none, none, none, none, none, rfl, Same.refl H⟩ ?_ ?_⟩
    · rw [List.length_map]
      split <;> split <;> omega
    · rw [List.length_map]
      split <;> split <;> omega
    · rintro i σ H1 hi ⟨y1, y2, y3, y4, y5, rfl, sm⟩
      have hi8 : i < 8 := by
        rw [List.length_map] at hi
        revert hi
        split <;> split <;> omega
      refine ⟨_, rfl, _, rfl, a, ns, _, rfl, sm.seq hS, by omega, by omega, fun b g s hb g0 s0 s1 => ?_⟩
      have B0 : BagAt (upd H1 b (.lst [.int g, .int s])) b := BagAt.new g0 s0 s1
      refine ⟨_, rfl, b, 57, rfl, B0, by decide, by decide, fun d1 H2 a0 a1 bx1 => ⟨_, _, rfl, rfl, _, rfl, b, 57, rfl, bx1.1, by decide, by decide, fun d2 H3 c0 c1 bx2 => ⟨_, _, rfl, rfl, (by show 4 ≤ sizeLine; decide), fun p hp => ⟨_, rfl, b, 4, rfl, (bx2.same (same_new hp)).1, by decide, by decide, fun j H4 j0 j1 bx3 => ?_⟩⟩⟩⟩
      have np : p ≠ b := BagAt.ne bx2.1 hp
      obtain ⟨v, hv, n, rfl, n0, n1⟩ := pick (xs := [.int 8, .int 64, .int (8 + d1), .int (8 + d2)]) (by
        intro x hx
        rcases List.mem_cons.mp hx with rfl | hx
        · exact br_of (by decide) (by decide)
        rcases List.mem_cons.mp hx with rfl | hx
        · exact br_of (by decide) (by decide)
        rcases List.mem_cons.mp hx with rfl | hx
        · exact br_of (by omega) (by omega)
        rcases List.mem_cons.mp hx with rfl | hx
        · exact br_of (by omega) (by omega)
        · cases hx) j0 j1
      refine ⟨_, _, _, _, rfl, rfl, SqL.of (bx3.2 _ _ np upd_same), hv, ?_⟩
      have bx4 : Bx b (upd H1 b (.lst [.int g, .int s])) H4 := ((bx1.trans bx2).same (same_new hp)).trans bx3
      refine ⟨_, rfl, 46, _, rfl, rfl, ⟨by omega, by omega⟩, ?_⟩
      refine ⟨_, rfl, by decide, by decide, for_range (lo := 0) (n := 4) (fun i' σ H' => ∃ (l : List Nat) (y5 : Option V), σ = [some (.ref a), some (.int (0 + (i : Int))), some (.ref b), some (.int (n : Int)), some (.str (sOf l)), y5] ∧ l.length = n ∧ Row l ∧ Bx b (upd H1 b (.lst [.int g, .int s])) H') ⟨List.replicate n 46, _, rfl, List.length_replicate, Row.rep (.inl rfl), bx4⟩ ?_ ?_⟩
      · rintro t σ H5 ht ⟨l, y5, rfl, ll, rl, bx5⟩
        refine ⟨_, rfl, _, rfl, _, rfl, b, n, l, _, rfl, rfl, bx5.1, by omega, by omega, ll, rl, fun l2 H6 ll2 rl2 bx6 => ?_⟩
        refine ⟨_, rfl, l2, rfl, rl2, by omega, by omega, fun H7 s7 => ⟨_, rfl, ?_⟩⟩
        exact ⟨l2, _, rfl, ll2, rl2, (bx5.trans bx6).same s7⟩
      · rintro σ H5 ⟨l, y5, rfl, ll, rl, bx5⟩
        exact ⟨_, _, _, _, _, rfl, sm.trans (bx5.back (same_new hb) hb)⟩
    · rintro σ H1 ⟨y1, y2, y3, y4, y5, rfl, sm⟩
      exact q _
end
theorem all_mk {l : PySem.W.OpenLaw} {w : World} {K : PySem.W.Frag} {h : Heap} {mg : Str → Option Value} {fa : Addr} (X : K.In h) (G : h.Ns mainGlobals mg) (hfa : mg "law" = some (.ref fa))
    {f0 f1 f2 f3 f4 f5 f6 f7 f8 : Addr}
    {od0 an0 od1 an1 od2 an2 od3 an3 od4 an4 od5 an5 od6 an6 od7 an7 od8 an8 : Option Addr}
    {sl0 sl1 sl2 sl3 sl4 sl5 sl6 sl7 sl8 : Array (Option Value)}
    {oc0 kV0 dc0 pm0 ct0 cd0 oc1 kV1 dc1 pm1 ct1 cd1 oc2 kV2 dc2 pm2 ct2 cd2 oc3 kV3 dc3 pm3 ct3 cd3 oc4 kV4 dc4 pm4 ct4 cd4 oc5 kV5 dc5 pm5 ct5 cd5 oc6 kV6 dc6 pm6 ct6 cd6 oc7 kV7 dc7 pm7 ct7 cd7 oc8 kV8 dc8 pm8 ct8 cd8 : Value}
    {t_DARK : Tok}
    {t_LIGHT : Tok}
    (a0 : PySem.W.nsIn K mainGlobals "first_place" = some (some (.ref f0))) (l0 : K.lookup f0 = some ⟨oc0, od0, .func (PySem.W.fnOf "first_place" "first_place" (defArgs s_first_place) (defBody s_first_place) (defScope s_first_place) .none kV0 dc0 pm0 an0 cd0 ct0), sl0⟩) (c0 : PySem.W.codeIn K cd0 "first_place" = true) (k0 : PySem.W.keepIn K (.ref f0) = true)
    (a1 : PySem.W.nsIn K mainGlobals "other_cell" = some (some (.ref f1))) (l1 : K.lookup f1 = some ⟨oc1, od1, .func (PySem.W.fnOf "other_cell" "other_cell" (defArgs s_other_cell) (defBody s_other_cell) (defScope s_other_cell) .none kV1 dc1 pm1 an1 cd1 ct1), sl1⟩) (c1 : PySem.W.codeIn K cd1 "other_cell" = true) (k1 : PySem.W.keepIn K (.ref f1) = true)
    (a2 : PySem.W.nsIn K mainGlobals "runs_of" = some (some (.ref f2))) (l2 : K.lookup f2 = some ⟨oc2, od2, .func (PySem.W.fnOf "runs_of" "runs_of" (defArgs s_runs_of) (defBody s_runs_of) (defScope s_runs_of) .none kV2 dc2 pm2 an2 cd2 ct2), sl2⟩) (c2 : PySem.W.codeIn K cd2 "runs_of" = true) (k2 : PySem.W.keepIn K (.ref f2) = true)
    (a3 : PySem.W.nsIn K mainGlobals "_law_bag" = some (some (.ref f3))) (l3 : K.lookup f3 = some ⟨oc3, od3, .func (PySem.W.fnOf "_law_bag" "_law_bag" (defArgs s_bag) (defBody s_bag) (defScope s_bag) .none kV3 dc3 pm3 an3 cd3 ct3), sl3⟩) (c3 : PySem.W.codeIn K cd3 "_law_bag" = true) (k3 : PySem.W.keepIn K (.ref f3) = true)
    (a4 : PySem.W.nsIn K mainGlobals "_law_draw" = some (some (.ref f4))) (l4 : K.lookup f4 = some ⟨oc4, od4, .func (PySem.W.fnOf "_law_draw" "_law_draw" (defArgs s_draw) (defBody s_draw) (defScope s_draw) .none kV4 dc4 pm4 an4 cd4 ct4), sl4⟩) (c4 : PySem.W.codeIn K cd4 "_law_draw" = true) (k4 : PySem.W.keepIn K (.ref f4) = true)
    (a5 : PySem.W.nsIn K mainGlobals "_law_row" = some (some (.ref f5))) (l5 : K.lookup f5 = some ⟨oc5, od5, .func (PySem.W.fnOf "_law_row" "_law_row" (defArgs s_row) (defBody s_row) (defScope s_row) .none kV5 dc5 pm5 an5 cd5 ct5), sl5⟩) (c5 : PySem.W.codeIn K cd5 "_law_row" = true) (k5 : PySem.W.keepIn K (.ref f5) = true)
    (a6 : PySem.W.nsIn K mainGlobals "_law_whole" = some (some (.ref f6))) (l6 : K.lookup f6 = some ⟨oc6, od6, .func (PySem.W.fnOf "_law_whole" "_law_whole" (defArgs s_whole) (defBody s_whole) (defScope s_whole) .none kV6 dc6 pm6 an6 cd6 ct6), sl6⟩) (c6 : PySem.W.codeIn K cd6 "_law_whole" = true) (k6 : PySem.W.keepIn K (.ref f6) = true)
    (a7 : PySem.W.nsIn K mainGlobals "_law_good" = some (some (.ref f7))) (l7 : K.lookup f7 = some ⟨oc7, od7, .func (PySem.W.fnOf "_law_good" "_law_good" (defArgs s_good) (defBody s_good) (defScope s_good) .none kV7 dc7 pm7 an7 cd7 ct7), sl7⟩) (c7 : PySem.W.codeIn K cd7 "_law_good" = true) (k7 : PySem.W.keepIn K (.ref f7) = true)
    (a8 : PySem.W.nsIn K mainGlobals "law" = some (some (.ref f8))) (l8 : K.lookup f8 = some ⟨oc8, od8, .func (PySem.W.fnOf "law" "law" (defArgs s_law) (defBody s_law) (defScope s_law) .none kV8 dc8 pm8 an8 cd8 ct8), sl8⟩) (c8 : PySem.W.codeIn K cd8 "law" = true) (k8 : PySem.W.keepIn K (.ref f8) = true)
    (z_abs : PySem.W.nsIn K mainGlobals "abs" = some none)
    (z_all : PySem.W.nsIn K mainGlobals "all" = some none)
    (z_bool : PySem.W.nsIn K mainGlobals "bool" = some none)
    (z_int : PySem.W.nsIn K mainGlobals "int" = some none)
    (z_isinstance : PySem.W.nsIn K mainGlobals "isinstance" = some none)
    (z_len : PySem.W.nsIn K mainGlobals "len" = some none)
    (z_list : PySem.W.nsIn K mainGlobals "list" = some none)
    (z_max : PySem.W.nsIn K mainGlobals "max" = some none)
    (z_min : PySem.W.nsIn K mainGlobals "min" = some none)
    (z_range : PySem.W.nsIn K mainGlobals "range" = some none)
    (m_DARK : PySem.W.nsIn K mainGlobals "DARK" = some (some (.str "#" t_DARK)))
    (m_LIGHT : PySem.W.nsIn K mainGlobals "LIGHT" = some (some (.str "." t_LIGHT)))
    : ∃ fd : FuncData, (∀ (s : Shared) (v : Value), BindsTo s fd ⟨[v], []⟩ [("_law_script", v)]) ∧ ∀ base : Heap, K.In base → base.Ns mainGlobals mg → FnOk l.prog w K mg base CX0 4 fa fd ["_law_script"] (spLaw K) := by
  have e := hfa.symm.trans (PySem.W.mg_of X G a8)
  cases e
  have F0 := fun_mk (st := s_first_place) l0 c0 k0
  have b0 := F0.binds (ps := P_first_place) fun _ _ _ _ _ _ us hl => match us, hl with | [_, _, _], _ => rfl
  have F1 := fun_mk (st := s_other_cell) l1 c1 k1
  have b1 := F1.binds (ps := P_other_cell) fun _ _ _ _ _ _ us hl => match us, hl with | [_], _ => rfl
  have F2 := fun_mk (st := s_runs_of) l2 c2 k2
  have b2 := F2.binds (ps := P_runs_of) fun _ _ _ _ _ _ us hl => match us, hl with | [_], _ => rfl
  have F3 := fun_mk (st := s_bag) l3 c3 k3
  have b3 := F3.binds (ps := P_bag) fun _ _ _ _ _ _ us hl => match us, hl with | [_, _], _ => rfl
  have F4 := fun_mk (st := s_draw) l4 c4 k4
  have b4 := F4.binds (ps := P_draw) fun _ _ _ _ _ _ us hl => match us, hl with | [_, _], _ => rfl
  have F5 := fun_mk (st := s_row) l5 c5 k5
  have b5 := F5.binds (ps := P_row) fun _ _ _ _ _ _ us hl => match us, hl with | [_, _, _], _ => rfl
  have F6 := fun_mk (st := s_whole) l6 c6 k6
  have b6 := F6.binds (ps := P_whole) fun _ _ _ _ _ _ us hl => match us, hl with | [_], _ => rfl
  have F7 := fun_mk (st := s_good) l7 c7 k7
  have b7 := F7.binds (ps := P_good) fun _ _ _ _ _ _ us hl => match us, hl with | [_], _ => rfl
  have F8 := fun_mk (st := s_law) l8 c8 k8
  exact ⟨_, fun s v => .of_eq rfl, fun base _ _ => ok_law (A := ⟨f0, _, f1, _, f2, _, f3, _, f4, _, f5, _, f6, _, f7, _, fa, _, t_DARK, t_LIGHT⟩) ⟨F0, b0, PySem.W.mg_of X G a0, F1, b1, PySem.W.mg_of X G a1, F2, b2, PySem.W.mg_of X G a2, F3, b3, PySem.W.mg_of X G a3, F4, b4, PySem.W.mg_of X G a4, F5, b5, PySem.W.mg_of X G a5, F6, b6, PySem.W.mg_of X G a6, F7, b7, PySem.W.mg_of X G a7, F8, PySem.W.mg_of X G a8, PySem.W.mg_none_of X G z_abs, PySem.W.mg_none_of X G z_all, PySem.W.mg_none_of X G z_bool, PySem.W.mg_none_of X G z_int, PySem.W.mg_none_of X G z_isinstance, PySem.W.mg_none_of X G z_len, PySem.W.mg_none_of X G z_list, PySem.W.mg_none_of X G z_max, PySem.W.mg_none_of X G z_min, PySem.W.mg_none_of X G z_range, PySem.W.mg_of X G m_DARK, PySem.W.mg_of X G m_LIGHT⟩⟩
end K08
open PySem PySem.W PyProof.Rows
set_option maxHeartbeats 0 in
theorem PySem.Challenge.cw_farpage_k08_runs_of_rows_holds : PySem.Challenge.rw_farpage_k08_runs_of_rows.Holds := by
  w_on; o_law; k_head; (case hw => w_witness2)
  k_fill
  refine L2.walk_of (l := PySem.Challenge.rw_farpage_k08_runs_of_rows) (n := 63) (k := 4) (x := "_law_script") (CX := fun _ => L2.CX0) (sp := fun w => K08.spLaw _) rfl (by decide) rfl ⟨rfl, by decide, by decide⟩ (fun w h Y => PySem.W.kIn_of Y) ?F (fun _ _ a ns hl _ hS => ⟨a, ns, rfl, hS, hl, fun _ => rfl⟩) (fun _ _ _ _ _ h => h)
  case F =>
    intro w mg fa h KX G hmg
    refine' K08.all_mk KX G hmg ?a0 ?l0 ?c0 ?k0 ?a1 ?l1 ?c1 ?k1 ?a2 ?l2 ?c2 ?k2 ?a3 ?l3 ?c3 ?k3 ?a4 ?l4 ?c4 ?k4 ?a5 ?l5 ?c5 ?k5 ?a6 ?l6 ?c6 ?k6 ?a7 ?l7 ?c7 ?k7 ?a8 ?l8 ?c8 ?k8 ?z_abs ?z_all ?z_bool ?z_int ?z_isinstance ?z_len ?z_list ?z_max ?z_min ?z_range ?m_DARK ?m_LIGHT
    (case a0 => k_is)
    (case l0 => k_is)
    (case c0 => k_is)
    (case k0 => k_is)
    (case a1 => k_is)
    (case l1 => k_is)
    (case c1 => k_is)
    (case k1 => k_is)
    (case a2 => k_is)
    (case l2 => k_is)
    (case c2 => k_is)
    (case k2 => k_is)
    (case a3 => k_is)
    (case l3 => k_is)
    (case c3 => k_is)
    (case k3 => k_is)
    (case a4 => k_is)
    (case l4 => k_is)
    (case c4 => k_is)
    (case k4 => k_is)
    (case a5 => k_is)
    (case l5 => k_is)
    (case c5 => k_is)
    (case k5 => k_is)
    (case a6 => k_is)
    (case l6 => k_is)
    (case c6 => k_is)
    (case k6 => k_is)
    (case a7 => k_is)
    (case l7 => k_is)
    (case c7 => k_is)
    (case k7 => k_is)
    (case a8 => k_is)
    (case l8 => k_is)
    (case c8 => k_is)
    (case k8 => k_is)
    (case z_abs => k_is)
    (case z_all => k_is)
    (case z_bool => k_is)
    (case z_int => k_is)
    (case z_isinstance => k_is)
    (case z_len => k_is)
    (case z_list => k_is)
    (case z_max => k_is)
    (case z_min => k_is)
    (case z_range => k_is)
    (case m_DARK => k_is)
    (case m_LIGHT => k_is)
