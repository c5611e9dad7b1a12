import PyProof.Rows.All
import Wide.All
import OpenK.AllK
import Wide.FinOn
import HandS.ForMost
import HandS.IsInst
import HandS.StrMore
import HandS.Codes
import HandS.Evl
import HandS.TupAny
import HandS.TupMul
import HandS.Walk
import PyProof.Rows.StrJoinRep
import HandS.More
import PySem.Challenge.RW_farpage_k24_spoils
set_option Elab.async false
set_option linter.all false
set_option maxRecDepth 100000
set_option maxHeartbeats 4000000
/-! Rules of our own over the hand layer: a sign times an int, list(text), ljust with a sign. -/
namespace Fp
open PySem L2 PyProof.Rows
/-- a text by its codes -/
def sOf (l : List Nat) : Str := ⟨l.toArray⟩
theorem sOf_list (l : List Nat) : (sOf l).cps.toList = l := by simp [sOf]
theorem sOf_len (l : List Nat) : (sOf l).length = l.length := by simp [sOf, Str.length]
theorem of_list {z : Str} {l : List Nat} (h : z.cps.toList = l) : z = sOf l := str_of_list (by rw [h, sOf_list])
theorem sOf_inj {l m : List Nat} (h : sOf l = sOf m) : l = m := by
  have := congrArg (fun z => z.cps.toList) h
  simpa [sOf] using this
theorem sOf_app (l m : List Nat) : sOf l ++ sOf m = sOf (l ++ m) := by
  apply of_list
  show ((sOf l) ++ (sOf m)).cps.toList = l ++ m
  rw [show ((sOf l) ++ (sOf m)).cps = (sOf l).cps ++ (sOf m).cps from rfl]
  simp [sOf]
section
variable {X : Cx}
theorem op_mul_str : OpR X (binaryOp .Mult) (fun x y H Q => ∃ c n, x = .str (sOf [c]) ∧ y = .int n ∧ (-100000 ≤ n ∧ n ≤ 100000) ∧ Q (.str (sOf (List.replicate n.toNat c))) H) := by
  intro pins s σ H x y v u Q I rx ry h
  obtain ⟨c, n, rfl, rfl, hz, q⟩ := h
  obtain ⟨t, rfl⟩ := rx
  obtain ⟨t', rfl⟩ := ry
  refine SB.mul (mulOk_of 1 100000 (by rw [sOf_len]; exact Nat.le_refl _) (by omega) (by omega) (by decide) (by decide)) fun t' k => ?_
  have e : Txt.mul (sOf [c]) n = sOf (List.replicate n.toNat c) := of_list (mul_one_list c n)
  rw [e]
  exact ⟨.str (sOf (List.replicate n.toNat c)), H, I.tok _, ⟨_, rfl⟩, q⟩
theorem padOk {i : Int} (h0 : 0 ≤ i) (h1 : i ≤ 100000) : PadOk i = true := padOk_of (by omega) (by omega)
theorem mt_ljustF : MtR X "str.ljust" (fun x xs H Q => ∃ (l : List Nat) (i : Int) (c : Nat), x = .str (sOf l) ∧ xs = [.int i, .str (sOf [c])] ∧ (0 ≤ i ∧ i ≤ 100000) ∧ Q (.str (sOf (l ++ List.replicate (i.toNat - l.length) c))) H) := by
  intro pins s σ H x xs v us Q I rx rs h
  obtain ⟨l, i, c, rfl, rfl, hz, q⟩ := h
  obtain ⟨t, rfl⟩ := rx
  obtain ⟨u, w', rfl, ⟨t', rfl⟩, ⟨t'', rfl⟩⟩ := vals2 rs
  refine ljust_fill (padOk hz.1 hz.2) (sOf_len _) fun t' k => ?_
  have e : Txt.ljustF (sOf l) i ((sOf [c]).cps.getD 0 0) = sOf (l ++ List.replicate (i.toNat - l.length) c) := of_list (by
    rw [ljustF_list, sOf_list, sOf_len]
    rfl)
  rw [e]
  exact ⟨.str (sOf (l ++ List.replicate (i.toNat - l.length) c)), H, I.tok _, ⟨_, rfl⟩, q⟩
theorem vals_signs {acc : List Value} {l : List Nat} (h1 : acc.length = l.length) (h2 : ∀ (j : Nat) v, acc[j]? = some v → ∃ c u, l[j]? = some c ∧ v = .str ⟨#[c]⟩ u) : Vals (l.map fun c => V.str (sOf [c])) acc := by
  induction l generalizing acc with
  | nil =>
    cases acc with
    | nil => exact .nil
    | cons a r => simp at h1
  | cons c r ih =>
    cases acc with
    | nil => simp at h1
    | cons a b =>
      obtain ⟨c', u, e, rfl⟩ := h2 0 a rfl
      have e2 : c' = c := by simpa using e.symm
      subst e2
      exact .cons ⟨u, rfl⟩ (ih (by simpa using h1) fun j v hj => h2 (j + 1) v hj)
theorem call_list_str (hc : X.calm = true) : CallR X (.type "list") (fun xs H Q => ∃ z : List Nat, xs = [.str (sOf z)] ∧ z.length ≤ 100000 ∧ ∀ l, H l = none → Q (.ref l) (upd H l (.lst (z.map fun c => V.str (sOf [c]))))) := by
  intro pins s σ H xs us Q I r h
  obtain ⟨z, rfl, hz, q⟩ := h
  obtain ⟨u, rfl, t, rfl⟩ := vals1 r
  have hl : z.length ≤ sizeLine := Nat.le_trans hz (by decide)
  refine PySem.call_list_str (I.ok.hd hc) (sOf z) t (hn := by show (sOf z).length ≤ sizeLine; rw [sOf_len]; exact hl) fun h' tk acc' c' hk hS' hacc => ?_
  have r' : Vals (z.map fun c => V.str (sOf [c])) acc'.toList := vals_signs (by have := hacc.1; simpa [sOf] using this) fun j v hj => by
    obtain ⟨c, u, e, rfl⟩ := hacc.2 j v (by simpa using hj)
    exact ⟨c, u, by simpa [sOf] using e, rfl⟩
  exact ⟨.ref s.heap.objs.size, _, I.laid (t' := tk) hk (Nat.le_refl _) (show ObjOk X.prog X.w _ h' _ (.lst _) from ⟨by rw [List.length_map]; exact hl, acc'.toList, c', r', by simpa using hS'⟩), rfl, q _ (I.hok.fresh (Nat.le_refl _))⟩
end
/-! ### heaps -/
theorem same_new {H : Hp} {p : Addr} {o : HO} (h : H p = none) : Same H (upd H p o) := fun b x e => by
  rw [upd_ne (ne_of_none e h)]
  exact e
/-- what is new may change -/
theorem Same.mut {H H' : Hp} {p : Addr} {o : HO} (e : Same H H') (h : H p = none) : Same H (upd H' p o) := fun b x hb => by
  rw [upd_ne (ne_of_none hb h)]
  exact e b x hb
/-- a bag of the laws' draws -/
def BagAt (H : Hp) (b : Addr) : Prop := ∃ g s : Int, H b = some (.lst [.int g, .int s]) ∧ 0 ≤ g ∧ 0 ≤ s ∧ s < 1000000000000
/-- the bag has turned, what else stood stands -/
def Bx (b : Addr) (H H' : Hp) : Prop := BagAt H' b ∧ ∀ a o, a ≠ b → H a = some o → H' a = some o
theorem Bx.refl {b : Addr} {H : Hp} (h : BagAt H b) : Bx b H H := ⟨h, fun _ _ _ e => e⟩
theorem Bx.trans {b : Addr} {H H1 H2 : Hp} (x : Bx b H H1) (y : Bx b H1 H2) : Bx b H H2 := ⟨y.1, fun a o n e => y.2 a o n (x.2 a o n e)⟩
theorem Bx.drawn {b : Addr} {H : Hp} {g s : Int} (g0 : 0 ≤ g) (s0 : 0 ≤ s) (s1 : s < 1000000000000) : Bx b H (upd H b (.lst [.int g, .int s])) := ⟨⟨g, s, upd_same, g0, s0, s1⟩, fun a o n e => by
  rw [upd_ne n]
  exact e⟩
theorem Bx.same {b : Addr} {H H1 H2 : Hp} (x : Bx b H H1) (y : Same H1 H2) : Bx b H H2 := by
  obtain ⟨⟨g, s, h, r⟩, k⟩ := x
  exact ⟨⟨g, s, y _ _ h, r⟩, fun a o n e => y _ _ (k a o n e)⟩
/-- from before the bag was made -/
theorem Bx.back {b : Addr} {H0 H H' : Hp} (x : Bx b H H') (y : Same H0 H) (n : H0 b = none) : Same H0 H' := fun a o e => x.2 a o (ne_of_none e n) (y a o e)
theorem Bx.mut {b p : Addr} {H H' : Hp} {o : HO} (x : Bx b H H') (hp : H p = none) (n : p ≠ b) : Bx b H (upd H' p o) := by
  obtain ⟨⟨g, s, h, r⟩, k⟩ := x
  refine ⟨⟨g, s, by rw [upd_ne n.symm]; exact h, r⟩, fun a u m e => ?_⟩
  rw [upd_ne (ne_of_none e hp)]
  exact k a u m e
theorem Bx.free {b p : Addr} {H H' : Hp} (x : Bx b H H') (h : H' p = none) : H p = none := by
  have n : p ≠ b := by
    obtain ⟨g, s, e, _⟩ := x.1
    exact (ne_of_none e h).symm
  cases q : H p with
  | none => rfl
  | some o =>
    rw [x.2 p o n q] at h
    cases h
theorem BagAt.new {H : Hp} {p : Addr} {g s : Int} (g0 : 0 ≤ g) (s0 : 0 ≤ s) (s1 : s < 1000000000000) : BagAt (upd H p (.lst [.int g, .int s])) p := ⟨g, s, upd_same, g0, s0, s1⟩
theorem BagAt.ne {H : Hp} {b p : Addr} (h : BagAt H b) (n : H p = none) : p ≠ b := by
  obtain ⟨g, s, e, _⟩ := h
  exact (ne_of_none e n).symm
/-- a list's own address is no bag's where its items are texts -/
def cells (l : List Nat) : List V := l.map fun c => V.str (sOf [c])
theorem cells_len (l : List Nat) : (cells l).length = l.length := List.length_map ..
theorem cells_set (l : List Nat) (j c : Nat) : (cells l).set j (.str (sOf [c])) = cells (l.set j c) := by
  unfold cells
  rw [List.map_set]
theorem cells_app (l : List Nat) (c : Nat) : cells l ++ [.str (sOf [c])] = cells (l ++ [c]) := by
  unfold cells
  rw [List.map_append]
  rfl
/-- the cells of rows -/
def Cell (c : Nat) : Prop := c = 46 ∨ c = 35
def Row (l : List Nat) : Prop := ∀ c ∈ l, Cell c
theorem Row.set {l : List Nat} {j c : Nat} (h : Row l) (hc : Cell c) : Row (l.set j c) := fun x hx => by
  rcases List.mem_or_eq_of_mem_set hx with e | e
  · exact h x e
  · rw [e]
    exact hc
theorem Row.app {l : List Nat} {c : Nat} (h : Row l) (hc : Cell c) : Row (l ++ [c]) := fun x hx => by
  rcases List.mem_append.mp hx with e | e
  · exact h x e
  · rw [List.mem_singleton.mp e]
    exact hc
theorem Row.rep {n c : Nat} (hc : Cell c) : Row (List.replicate n c) := fun x hx => by
  rw [(List.mem_replicate.mp hx).2]
  exact hc
theorem Row.nil : Row [] := fun _ h => nomatch h
def cellN (i : Int) : Nat := if i = 0 then 46 else 35
theorem cellN_cell (i : Int) : Cell (cellN i) := by
  unfold cellN
  split
  · exact .inl rfl
  · exact .inr rfl
theorem cell_at {i : Int} (h0 : 0 ≤ i) (h1 : i < 2) : atI (Str.ofString ".#").cps.toList i = some (cellN i) := by
  have : i = 0 ∨ i = 1 := by omega
  rcases this with rfl | rfl <;> rfl
theorem two_len : (Str.ofString ".#").length ≤ sizeLine := by decide
theorem sz {n : Nat} (h : n ≤ 100000) : n ≤ sizeLine := Nat.le_trans h (by decide)
theorem szl {n : Nat} (h : n < 100000) : n < sizeLine := Nat.lt_of_lt_of_le h (by decide)
theorem sIx_nat' (n d a : Nat) : HT.sIx n d (some (a : Int)) = min a n := HT.sIx_nat n d a
theorem cutS_nat (l : List Nat) (a b : Nat) (ha : a ≤ l.length) (hb : b ≤ l.length) : cutS (sOf l) (some (a : Int)) (some (b : Int)) = sOf ((l.drop a).take (b - a)) := by
  unfold cutS
  rw [HT.sIx_nat, HT.sIx_nat, sOf_len, sOf_list, Nat.min_eq_left ha, Nat.min_eq_left hb]
  rfl
theorem take_more {α : Type} (l : List α) (i : Nat) (x : α) (h : l[i]? = some x) : l.take (i + 1) = l.take i ++ [x] := by
  rw [List.take_add_one, h]
  rfl
theorem range_more {α : Type} (f : Nat → α) (i : Nat) : (List.range (i + 1)).map f = (List.range i).map f ++ [f i] := by
  rw [List.range_succ, List.map_append]
  rfl
theorem join_cells : ∀ l : List Nat, Txt.join (Str.ofString "") (l.map fun c => sOf [c]) = sOf l := by
  intro l
  show Builtin.Str.glued (Str.ofString "") (l.map fun c => sOf [c]) = sOf l
  rw [StrLaws.glued_eq_join]
  induction l with
  | nil => rfl
  | cons c r ih =>
    cases r with
    | nil => rfl
    | cons d r =>
      show sOf [c] ++ Str.ofString "" ++ Str.join (Str.ofString "") (List.map (fun c => sOf [c]) (d :: r)) = sOf (c :: d :: r)
      rw [ih, show (Str.ofString "") = sOf [] from rfl, sOf_app, sOf_app]
      rfl
theorem cells_strs (l : List Nat) : cells l = (l.map fun c => sOf [c]).map V.str := by
  rw [List.map_map]
  rfl
theorem ones_sum (l : List Nat) : ((l.map fun c => sOf [c]).map (·.length)).sum = l.length := by
  induction l with
  | nil => rfl
  | cons c r ih =>
    rw [List.map_cons, List.map_cons, List.sum_cons, ih, sOf_len, List.length_cons]
    show 1 + r.length = r.length + 1
    omega
theorem join_size {l : List Nat} (h : l.length ≤ 100000) : ((l.map fun c => sOf [c]).map (·.length)).sum + (l.map fun c => sOf [c]).length * (Str.ofString "").length ≤ 16777216 := by
  rw [ones_sum, show (Str.ofString "").length = 0 from rfl]
  omega
theorem rep_one (n : Nat) (c : Nat) : (List.replicate n [V.str (sOf [c])]).flatten = cells (List.replicate n c) := by
  induction n with
  | zero => rfl
  | succ k ih =>
    rw [List.replicate_succ, List.flatten_cons, ih, List.replicate_succ]
    rfl

/-! ### lists and tuples of texts -/
def sV (l : List Nat) : V := .str (sOf l)
def sD (l : List Nat) : PyData := .str (sOf l)
theorem dp_rows {K : PySem.W.Frag} {H : Hp} : ∀ rows : List (List Nat), DpAll K H (rows.map sV) (rows.map sD)
  | [] => .nil
  | r :: rs => .cons (.str _) (dp_rows rs)
def Codes (l : List Nat) : Prop := ∀ c ∈ l, c < 128
theorem strOk_of {l : List Nat} (h : Codes l) : PyData.strOk (sOf l) = true := by
  unfold PyData.strOk sOf
  rw [Array.all_eq_true']
  intro c hc
  have h2 := h c (by simpa using hc)
  exact decide_eq_true (by omega)
theorem lay_rows : ∀ {rows : List (List Nat)}, (∀ r ∈ rows, Codes r) → PyData.canLayAll0 (rows.map sD) = true
  | [], _ => by simp [PyData.canLayAll0]
  | r :: rs, h => by
    have h1 : PyData.canLay0 (sD r) = true := by
      show PyData.canLay0 (.str (sOf r)) = true
      simp only [PyData.canLay0]
      exact strOk_of (h r (List.mem_cons_self ..))
    have h2 := lay_rows (rows := rs) fun x hx => h x (List.mem_cons_of_mem _ hx)
    simp only [List.map_cons, PyData.canLayAll0, h1, h2, Bool.and_true]
theorem depth_rows : ∀ rows : List (List Nat), PyData.depthAll (rows.map sD) = 0
  | [] => by simp [PyData.depthAll]
  | r :: rs => by
    have h := depth_rows rs
    simp only [List.map_cons, PyData.depthAll, h, sD, PyData.depth]
    rfl
theorem shaped_tup {rows : List (List Nat)} (h : ∀ r ∈ rows, Codes r) : SeqAt.shaped (.tuple (rows.map sD)) = true := by
  show (PyData.canLay0 (.tuple (rows.map sD)) && decide (PyData.depth (.tuple (rows.map sD)) ≤ 64)) = true
  rw [Bool.and_eq_true]
  refine ⟨by simp only [PyData.canLay0]; exact lay_rows h, decide_eq_true ?_⟩
  simp only [PyData.depth, depth_rows]
  omega
theorem shaped_lst {rows : List (List Nat)} (h : ∀ r ∈ rows, Codes r) : SeqAt.shaped (.list (rows.map sD)) = true := by
  show (PyData.canLay0 (.list (rows.map sD)) && decide (PyData.depth (.list (rows.map sD)) ≤ 64)) = true
  rw [Bool.and_eq_true]
  refine ⟨by simp only [PyData.canLay0]; exact lay_rows h, decide_eq_true ?_⟩
  simp only [PyData.depth, depth_rows]
  omega
theorem eqv_tup {rows : List (List Nat)} (h : ∀ r ∈ rows, Codes r) : PyData.eqv (.tuple (rows.map sD)) (.tuple (rows.map sD)) = true := SeqAt.eqv_refl _ (by simp only [PyData.canLay0]; exact lay_rows h)
theorem eqv_lst {rows : List (List Nat)} (h : ∀ r ∈ rows, Codes r) : PyData.eqv (.list (rows.map sD)) (.list (rows.map sD)) = true := SeqAt.eqv_refl _ (by simp only [PyData.canLay0]; exact lay_rows h)
theorem Row.codes {l : List Nat} (h : Row l) : Codes l := fun c hc => by
  rcases h c hc with e | e <;> rw [e] <;> decide
theorem same_t {K : PySem.W.Frag} {H H' : Hp} {a : Addr} {xs : List V} (e : Same H H') (h : SqT K H a xs) : SqT K H' a xs := Evl.ex_t e h
theorem cut1 (xs : List V) : cutV xs (some 1) none = xs.drop 1 := by
  unfold cutV
  rw [show HT.sIx xs.length 0 (some 1) = min 1 xs.length from HT.sIx_nat xs.length 0 1, HT.sIx_none]
  cases xs with
  | nil => rfl
  | cons x r =>
    rw [show min 1 (x :: r).length = 1 by
      rw [List.length_cons]
      omega]
    show (List.take ((x :: r).length - 1) r) = r
    rw [List.length_cons, Nat.add_sub_cancel]
    exact List.take_length

/-! ### tuples of any kind, texts times an int -/
section
variable {X : Cx}
theorem cutV_whole {xs : List V} {lo hi : Option Int} (h : HT.sIx xs.length 0 lo = 0 ∧ HT.sIx xs.length xs.length hi = xs.length) : cutV xs lo hi = xs := by
  unfold cutV
  rw [h.1, h.2]
  show (xs.drop 0).take (xs.length - 0) = xs
  rw [List.drop_zero, Nat.sub_zero, List.take_length]
theorem sl_tupW : SlR X (fun x lo hi H Q => ∃ a xs, x = .ref a ∧ H a = some (.tup xs) ∧ ∀ q H', Same H H' → H' q = some (.tup (cutV xs lo hi)) → Q (.ref q) H') := by
  intro pins s σ H x v vl vu lo hi sl Q I rx hs pl pu h
  obtain ⟨a, xs, rfl, hx, q⟩ := h
  refine sl_tupA pins s σ H _ v vl vu lo hi sl Q I rx hs pl pu ⟨a, xs, rfl, .inl (.inl hx), fun e => ?_, fun e p hp => ?_⟩
  · exact q a H (Same.refl H) (by rw [cutV_whole e]; exact hx)
  · exact q p _ (same_new hp) upd_same
theorem op_catW : OpR X (binaryOp .Add) (fun x y H Q => ∃ a b xs ys, x = .ref a ∧ y = .ref b ∧ H a = some (.tup xs) ∧ H b = some (.tup ys) ∧ xs.length + ys.length ≤ 100000 ∧ ∀ q H', Same H H' → H' q = some (.tup (xs ++ ys)) → Q (.ref q) H') := by
  intro pins s σ H x y v u Q I rx ry h
  obtain ⟨a, b, xs, ys, rfl, rfl, ha, hb, hz, q⟩ := h
  refine op_catA pins s σ H _ _ v u Q I rx ry ⟨a, b, xs, ys, rfl, rfl, .inl (.inl ha), .inl (.inl hb), sz hz, fun e => ?_, fun _ e => ?_, fun _ _ p hp => ?_⟩
  · subst e
    exact q b H (Same.refl H) hb
  · subst e
    exact q a H (Same.refl H) (by rw [List.append_nil]; exact ha)
  · exact q p _ (same_new hp) upd_same
theorem op_mul_txt : OpR X (binaryOp .Mult) (fun x y H Q => ∃ (z : Str) (n : Int), x = .str z ∧ y = .int n ∧ (0 ≤ n ∧ n ≤ 1000 ∧ z.length ≤ 1000) ∧ ∀ m : Str, (m.length : Int) = (z.length : Int) * n → Q (.str m) H) := by
  intro pins s σ H x y v u Q I rx ry h
  obtain ⟨z, n, rfl, rfl, hz, q⟩ := h
  obtain ⟨t, rfl⟩ := rx
  obtain ⟨t', rfl⟩ := ry
  refine SB.mul (mulOk_of 1000 1000 hz.2.2 (by omega) (by omega) (by decide) (by decide)) fun t' k => ?_
  have e := len_mul z n
  rw [if_neg (by simp; omega)] at e
  exact ⟨.str (Txt.mul z n), H, I.tok _, ⟨_, rfl⟩, q _ e⟩
end
theorem cutV_mem {xs : List V} {lo hi : Option Int} {v : V} (h : v ∈ cutV xs lo hi) : v ∈ xs := by
  unfold cutV at h
  exact List.mem_of_mem_drop (List.mem_of_mem_take h)
theorem cutV_len (xs : List V) (lo hi : Option Int) : (cutV xs lo hi).length ≤ xs.length := by
  unfold cutV
  rw [List.length_take, List.length_drop]
  omega
/-! ### things of the laws -/
def Flat (v : V) : Prop := v = .non ∨ (∃ x, v = .bl x) ∨ (∃ i, v = .int i) ∨ ∃ z : Str, v = .str z ∧ z.length ≤ 100000
def It (b : Addr) (H : Hp) (v : V) : Prop := Flat v ∨ (∃ a xs, v = .ref a ∧ a ≠ b ∧ H a = some (.lst xs)) ∨ ∃ a xs, v = .ref a ∧ H a = some (.tup xs)
def Tg (b : Addr) (H : Hp) (v : V) : Prop := Flat v ∨ (∃ a xs, v = .ref a ∧ a ≠ b ∧ H a = some (.lst xs)) ∨ ∃ a xs, v = .ref a ∧ H a = some (.tup xs) ∧ xs.length ≤ 1000 ∧ ∀ u ∈ xs, It b H u
theorem BagAt.tup {H : Hp} {b a : Addr} {xs : List V} (h : BagAt H b) (e : H a = some (.tup xs)) : a ≠ b := fun z => by
  obtain ⟨g, s, e2, _⟩ := h
  rw [z, e2] at e
  cases e
theorem It.bx {b : Addr} {H H' : Hp} {v : V} (h : It b H v) (hb : BagAt H b) (x : Bx b H H') : It b H' v := by
  rcases h with h | ⟨a, xs, rfl, n, e⟩ | ⟨a, xs, rfl, e⟩
  · exact .inl h
  · exact .inr (.inl ⟨a, xs, rfl, n, x.2 _ _ n e⟩)
  · exact .inr (.inr ⟨a, xs, rfl, x.2 _ _ (hb.tup e) e⟩)
theorem Tg.bx {b : Addr} {H H' : Hp} {v : V} (h : Tg b H v) (hb : BagAt H b) (x : Bx b H H') : Tg b H' v := by
  rcases h with h | ⟨a, xs, rfl, n, e⟩ | ⟨a, xs, rfl, e, l, k⟩
  · exact .inl h
  · exact .inr (.inl ⟨a, xs, rfl, n, x.2 _ _ n e⟩)
  · exact .inr (.inr ⟨a, xs, rfl, x.2 _ _ (hb.tup e) e, l, fun u hu => (k u hu).bx hb x⟩)
theorem Tg.it {b : Addr} {H : Hp} {v : V} (h : Tg b H v) : It b H v := by
  rcases h with h | h | ⟨a, xs, rfl, e, l, k⟩
  · exact .inl h
  · exact .inr (.inl h)
  · exact .inr (.inr ⟨a, xs, rfl, e⟩)
theorem Tg.str {b : Addr} {H : Hp} {z : Str} (h : z.length ≤ 100000) : Tg b H (.str z) := .inl (.inr (.inr (.inr ⟨z, rfl, h⟩)))
theorem It.str {b : Addr} {H : Hp} {z : Str} (h : z.length ≤ 100000) : It b H (.str z) := .inl (.inr (.inr (.inr ⟨z, rfl, h⟩)))
theorem str_sOf (z : Str) : z = sOf z.cps.toList := of_list rfl

/-! ### rules whose new objects stand in an opaque heap -/
section
variable {X : Cx} {es : List Expr} {t : TA} {pos : Pos}
theorem pe_weaken {e : Expr} {te tf : TE} (h : PE X e te) (k : ∀ σ H Q, tf σ H Q → te σ H Q) : PE X e tf := ⟨fun pins s σ H Q I q => h.run pins s σ H Q I (k σ H Q q)⟩
def tLstW (t : TA) : TE := fun σ H Q => t σ H fun xs H1 => xs.length ≤ 100000 ∧ ∀ p H2, H1 p = none → Same H1 H2 → H2 p = some (.lst xs) → Q (.ref p) H2
def tTupW (t : TA) : TE := fun σ H Q => t σ H fun xs H1 => xs.length ≤ 100000 ∧ ∀ p H2, H1 p = none → Same H1 H2 → H2 p = some (.tup xs) → Q (.ref p) H2
end
def rNewW (H : Hp) (o : HO) (Q : VK) : Prop := ∀ p H2, H p = none → Same H H2 → H2 p = some o → Q (.ref p) H2
theorem rNewW.go {H : Hp} {o : HO} {Q : VK} (q : rNewW H o Q) : ∀ p, H p = none → Q (.ref p) (upd H p o) := fun p hp => q p _ hp (same_new hp) upd_same
section
variable {X : Cx}
theorem op_catLW : OpR X (binaryOp .Add) (fun x y H Q => ∃ a b xs ys, x = .ref a ∧ y = .ref b ∧ H a = some (.lst xs) ∧ H b = some (.lst ys) ∧ xs.length + ys.length ≤ 100000 ∧ rNewW H (.lst (xs ++ ys)) Q) := by
  intro pins s σ H x y v u Q I rx ry h
  obtain ⟨a, b, xs, ys, rfl, rfl, ha, hb, hz, q⟩ := h
  exact op_cat pins s σ H _ _ v u Q I rx ry ⟨a, b, xs, ys, rfl, rfl, ha, hb, sz hz, q.go⟩
theorem op_repTW : OpR X (binaryOp .Mult) (fun x y H Q => ∃ l k xs, x = .ref l ∧ y = .int k ∧ H l = some (.tup xs) ∧ xs ≠ [] ∧ 2 ≤ k ∧ k ≤ 1000 ∧ xs.length ≤ 1000 ∧ rNewW H (.tup (List.replicate k.toNat xs).flatten) Q) := by
  intro pins s σ H x y v u Q I rx ry h
  obtain ⟨l, k, xs, rfl, rfl, hl, h1, h2, h3, h4, q⟩ := h
  exact op_repT pins s σ H _ _ v u Q I rx ry ⟨l, k, xs, rfl, rfl, .inl (.inl hl), h1, h2, h3, h4, q.go⟩
theorem call_list_ofW : CallR X (.type "list") (fun xs H Q => ∃ p ys, xs = [.ref p] ∧ (H p = some (.lst ys) ∨ H p = some (.tup ys)) ∧ rNewW H (.lst ys) Q) := by
  intro pins s σ H xs us Q I r h
  obtain ⟨p, ys, rfl, hp, q⟩ := h
  exact call_list_of pins s σ H _ us Q I r ⟨p, ys, rfl, hp.elim (fun h => .inl (SqL.of h)) (fun h => .inr (.inl (.inl h))), q.go⟩
theorem call_list_strW (hc : X.calm = true) : CallR X (.type "list") (fun xs H Q => ∃ z : Str, xs = [.str z] ∧ z.length ≤ 100000 ∧ rNewW H (.lst (cells z.cps.toList)) Q) := by
  intro pins s σ H xs us Q I r h
  obtain ⟨z, rfl, hz, q⟩ := h
  refine call_list_str hc pins s σ H _ us Q I r ⟨z.cps.toList, by rw [← str_sOf], ?_, q.go⟩
  rw [Array.length_toList]
  exact hz
end
section
variable {X : Cx} {es : List Expr} {t : TA} {pos : Pos}
theorem pe_tupW {x1} (h : PA X es t) : PE X (.Tuple es x1 pos) (tTupW t) := by
  refine ⟨fun pins s σ H Q I hq => ?_⟩
  refine wpAny_Tuple_spliced (thn (h.run pos pins s σ H _ I hq) fun us s1 ⟨xs, H1, I1, r, z, q⟩ => ⟨by rw [← r.length]; exact sz z, ?_⟩)
  have hf : H1 s1.heap.objs.size = none := I1.hok.fresh (Nat.le_refl _)
  refine ⟨.ref s1.heap.objs.size, upd H1 s1.heap.objs.size (.tup xs), I1.laid (t' := s1.toks) (fun b u e => Heap.get?_push_of_some _ e) (Nat.le_refl _) ?_, rfl, q _ _ hf (same_new hf) upd_same⟩
  exact ⟨sz z, us, r, ⟨_, Heap.get?_push_size _ rfl, rfl, _, rfl⟩⟩
theorem pe_lstW (h : PA X es t) : PE X (.List es pos) (tLstW t) := by
  refine ⟨fun pins s σ H Q I hq => ?_⟩
  refine wpAny_List_spliced (thn (h.run pos pins s σ H _ I hq) fun us s1 ⟨xs, H1, I1, r, z, q⟩ => ⟨by rw [← r.length]; exact sz z, ?_⟩)
  have hf : H1 s1.heap.objs.size = none := I1.hok.fresh (Nat.le_refl _)
  refine ⟨.ref s1.heap.objs.size, upd H1 s1.heap.objs.size (.lst xs), I1.laid (t' := s1.toks) (fun b u e => Heap.get?_push_of_some _ e) (Nat.le_refl _) ?_, rfl, q _ _ hf (same_new hf) upd_same⟩
  exact ⟨sz z, us, 0, r, Heap.get?_push_size _ rfl⟩
end
end Fp

set_option Elab.async false
set_option linter.all false
set_option maxRecDepth 100000
set_option maxHeartbeats 4000000
/-! Texts of bits: slices, numbers written by twos, spoils. -/
namespace Fp
open PySem L2 PyProof.Rows
theorem cutS_upto (l : List Nat) (b : Nat) : cutS (sOf l) none (some (b : Int)) = sOf (l.take b) := by
  unfold cutS
  rw [HT.sIx_nat, sOf_len, sOf_list, HT.sIx_none]
  show sOf ((l.drop 0).take (min b l.length - 0)) = _
  rw [List.drop_zero, Nat.sub_zero]
  congr 1
  by_cases h : b ≤ l.length
  · rw [Nat.min_eq_left h]
  · rw [Nat.min_eq_right (by omega), List.take_length, List.take_of_length_le (by omega)]
theorem cutS_from (l : List Nat) (a : Nat) : cutS (sOf l) (some (a : Int)) none = sOf (l.drop a) := by
  unfold cutS
  rw [HT.sIx_nat, sOf_len, sOf_list, HT.sIx_none]
  congr 1
  by_cases h : a ≤ l.length
  · rw [Nat.min_eq_left h]
    have q : (l.drop a).length ≤ l.length - a := by
      rw [List.length_drop]
      exact Nat.le_refl _
    exact congrArg _ (List.take_of_length_le q)
  · rw [Nat.min_eq_right (by omega), Nat.sub_self, List.take_zero, List.drop_eq_nil_of_le (by omega)]
/-! ### known tests -/
theorem iteD1 {p A B : Prop} [Decidable p] (h : p) (a : A) : if decide p = true then A else B := by
  rw [decide_eq_true h]
  exact iteT a
theorem iteD0 {p A B : Prop} [Decidable p] (h : ¬ p) (b : B) : if decide p = true then A else B := by
  rw [decide_eq_false h]
  exact iteF b
theorem iteN0 {p A B : Prop} [Decidable p] (h : p) (b : B) : if (!decide p) = true then A else B := by
  rw [decide_eq_true h]
  exact iteF b
theorem iteN1 {p A B : Prop} [Decidable p] (h : ¬ p) (a : A) : if (!decide p) = true then A else B := by
  rw [decide_eq_false h]
  exact iteT a
theorem vint {i j : Int} : (V.int i = V.int j) ↔ i = j := ⟨fun h => V.int.inj h, fun h => by rw [h]⟩
theorem vstr {l m : List Nat} : (V.str (sOf l) = V.str (sOf m)) ↔ l = m := ⟨fun h => sOf_inj (V.str.inj h), fun h => by rw [h]⟩
theorem vstr1 {c d : Nat} : (V.str (sOf [c]) = V.str (sOf [d])) ↔ c = d := vstr.trans ⟨fun h => by simpa using h, fun h => by rw [h]⟩
def bitN (i : Int) : Nat := if i = 0 then 48 else 49
theorem bitN_bit (i : Int) : bitN i = 48 ∨ bitN i = 49 := by
  unfold bitN
  split
  · exact .inl rfl
  · exact .inr rfl
theorem bit_at {i : Int} (h0 : 0 ≤ i) (h1 : i < 2) : atI (Str.ofString "01").cps.toList i = some (bitN i) := by
  have : i = 0 ∨ i = 1 := by omega
  rcases this with rfl | rfl <;> rfl
theorem two_len' : (Str.ofString "01").length ≤ sizeLine := by decide
theorem sOf_at {l : List Nat} {i c : Nat} (h : l[i]? = some c) : atI (sOf l).cps.toList (i : Int) = some c := by
  rw [sOf_list]
  exact atI_nat h
--PURE
/-! ### bits -/
def Bts (l : List Nat) : Prop := ∀ c ∈ l, c = 48 ∨ c = 49
theorem Bts.app {l m : List Nat} (h : Bts l) (k : Bts m) : Bts (l ++ m) := fun c hc => by
  rcases List.mem_append.mp hc with e | e
  · exact h c e
  · exact k c e
theorem Bts.nil : Bts [] := fun _ h => nomatch h
theorem Bts.take {l : List Nat} (h : Bts l) (n : Nat) : Bts (l.take n) := fun c hc => h c (List.mem_of_mem_take hc)
theorem Bts.drop {l : List Nat} (h : Bts l) (n : Nat) : Bts (l.drop n) := fun c hc => h c (List.mem_of_mem_drop hc)
theorem Bts.one {c : Nat} (h : c = 48 ∨ c = 49) : Bts [c] := fun x hx => by
  rw [List.mem_singleton.mp hx]
  exact h
theorem Bts.rep {n c : Nat} (hc : c = 48 ∨ c = 49) : Bts (List.replicate n c) := fun x hx => by
  rw [(List.mem_replicate.mp hx).2]
  exact hc
theorem Bts.at {l : List Nat} (h : Bts l) {i c : Nat} (e : l[i]? = some c) : c = 48 ∨ c = 49 := h c (List.mem_of_getElem? e)
/-- a number by twos, m signs -/
def wrB (n m : Nat) : List Nat := (List.range m).map fun j => 48 + n / 2 ^ (m - 1 - j) % 2
theorem wrB_len (n m : Nat) : (wrB n m).length = m := by
  unfold wrB
  rw [List.length_map, List.length_range]
theorem wrB_bts (n m : Nat) : Bts (wrB n m) := fun c hc => by
  unfold wrB at hc
  obtain ⟨j, _, rfl⟩ := List.mem_map.mp hc
  omega
/-! ### spoils -/
inductive Spl where
  | turn (n : Nat)
  | lose (n : Nat)
  | put (n b : Nat)
def flipB (c : Nat) : Nat := if c = 49 then 48 else 49
def once (l : List Nat) : Spl → List Nat
  | .put n b => if n ≤ l.length then l.take n ++ b :: l.drop n else l
  | .turn n => if n < l.length then l.take n ++ flipB ((l[n]?).getD 0) :: l.drop (n + 1) else l
  | .lose n => if n < l.length then l.take n ++ l.drop (n + 1) else l
def spoilL (l : List Nat) (sps : List Spl) : List Nat := sps.foldl once l
def plc : Spl → Nat
  | .put n _ => n
  | .turn n => n
  | .lose n => n
/-- what the sign x at the place i becomes -/
def stepA (sp : Spl) (i : Nat) : List Nat := match sp with
  | .put n b => if i = n then [b] else []
  | _ => []
def stepB (sp : Spl) (i x : Nat) : List Nat := match sp with
  | .put _ _ => [x]
  | .turn n => if i = n then [flipB x] else [x]
  | .lose n => if i = n then [] else [x]
/-- place by place -/
def walkS (sp : Spl) : List Nat → Nat → List Nat
  | [], i => stepA sp i
  | x :: r, i => stepA sp i ++ stepB sp i x ++ walkS sp r (i + 1)
theorem walk_past (sp : Spl) : ∀ (l : List Nat) (i : Nat), plc sp < i → walkS sp l i = l
  | [], i, h => by
    cases sp with
    | put n b => show (if i = n then [b] else []) = []; rw [if_neg (by show ¬ i = n; have : n < i := h; omega)]
    | turn n => rfl
    | lose n => rfl
  | x :: r, i, h => by
    have ih := walk_past sp r (i + 1) (by omega)
    unfold walkS
    rw [ih]
    cases sp with
    | put n b =>
      have : n < i := h
      show (if i = n then [b] else []) ++ [x] ++ r = x :: r
      rw [if_neg (by omega)]
      rfl
    | turn n =>
      have : n < i := h
      show [] ++ (if i = n then [flipB x] else [x]) ++ r = x :: r
      rw [if_neg (by omega)]
      rfl
    | lose n =>
      have : n < i := h
      show [] ++ (if i = n then [] else [x]) ++ r = x :: r
      rw [if_neg (by omega)]
      rfl
def shift (sp : Spl) (i : Nat) : Spl := match sp with
  | .put n b => .put (n - i) b
  | .turn n => .turn (n - i)
  | .lose n => .lose (n - i)
theorem walk_once (sp : Spl) : ∀ (l : List Nat) (i : Nat), i ≤ plc sp → walkS sp l i = once l (shift sp i)
  | [], i, h => by
    cases sp with
    | put n b =>
      have : i ≤ n := h
      show (if i = n then [b] else []) = if n - i ≤ 0 then [].take (n - i) ++ b :: [].drop (n - i) else []
      by_cases e : i = n
      · rw [if_pos e, if_pos (by omega)]
        simp
      · rw [if_neg e, if_neg (by omega)]
    | turn n => rfl
    | lose n => rfl
  | x :: r, i, h => by
    unfold walkS
    by_cases e : i = plc sp
    · rw [walk_past sp r (i + 1) (by omega)]
      cases sp with
      | put n b =>
        have e : i = n := e
        subst e
        show (if i = i then [b] else []) ++ [x] ++ r = if i - i ≤ (x :: r).length then (x :: r).take (i - i) ++ b :: (x :: r).drop (i - i) else x :: r
        rw [if_pos rfl, Nat.sub_self, if_pos (Nat.zero_le _)]
        rfl
      | turn n =>
        have e : i = n := e
        subst e
        show [] ++ (if i = i then [flipB x] else [x]) ++ r = if i - i < (x :: r).length then (x :: r).take (i - i) ++ flipB (((x :: r)[i - i]?).getD 0) :: (x :: r).drop (i - i + 1) else x :: r
        rw [if_pos rfl, Nat.sub_self, if_pos (by rw [List.length_cons]; exact Nat.succ_pos _)]
        rfl
      | lose n =>
        have e : i = n := e
        subst e
        show [] ++ (if i = i then [] else [x]) ++ r = if i - i < (x :: r).length then (x :: r).take (i - i) ++ (x :: r).drop (i - i + 1) else x :: r
        rw [if_pos rfl, Nat.sub_self, if_pos (by rw [List.length_cons]; exact Nat.succ_pos _)]
        rfl
    · have lt : i + 1 ≤ plc sp := by omega
      rw [walk_once sp r (i + 1) lt]
      cases sp with
      | put n b =>
        have lt : i + 1 ≤ n := lt
        obtain ⟨k, rfl⟩ : ∃ k, n = i + 1 + k := ⟨n - (i + 1), by omega⟩
        show (if i = i + 1 + k then [b] else []) ++ [x] ++ (if i + 1 + k - (i + 1) ≤ r.length then r.take (i + 1 + k - (i + 1)) ++ b :: r.drop (i + 1 + k - (i + 1)) else r) = if i + 1 + k - i ≤ (x :: r).length then (x :: r).take (i + 1 + k - i) ++ b :: (x :: r).drop (i + 1 + k - i) else x :: r
        rw [if_neg (by omega), show i + 1 + k - (i + 1) = k by omega, show i + 1 + k - i = k + 1 by omega, List.length_cons]
        by_cases q : k ≤ r.length
        · rw [if_pos q, if_pos (by omega)]
          rfl
        · rw [if_neg q, if_neg (by omega)]
          rfl
      | turn n =>
        have lt : i + 1 ≤ n := lt
        obtain ⟨k, rfl⟩ : ∃ k, n = i + 1 + k := ⟨n - (i + 1), by omega⟩
        show [] ++ (if i = i + 1 + k then [flipB x] else [x]) ++ (if i + 1 + k - (i + 1) < r.length then r.take (i + 1 + k - (i + 1)) ++ flipB ((r[i + 1 + k - (i + 1)]?).getD 0) :: r.drop (i + 1 + k - (i + 1) + 1) else r) = if i + 1 + k - i < (x :: r).length then (x :: r).take (i + 1 + k - i) ++ flipB (((x :: r)[i + 1 + k - i]?).getD 0) :: (x :: r).drop (i + 1 + k - i + 1) else x :: r
        rw [if_neg (by omega), show i + 1 + k - (i + 1) = k by omega, show i + 1 + k - i = k + 1 by omega, List.length_cons]
        by_cases q : k < r.length
        · rw [if_pos q, if_pos (by omega)]
          rfl
        · rw [if_neg q, if_neg (by omega)]
          rfl
      | lose n =>
        have lt : i + 1 ≤ n := lt
        obtain ⟨k, rfl⟩ : ∃ k, n = i + 1 + k := ⟨n - (i + 1), by omega⟩
        show [] ++ (if i = i + 1 + k then [] else [x]) ++ (if i + 1 + k - (i + 1) < r.length then r.take (i + 1 + k - (i + 1)) ++ r.drop (i + 1 + k - (i + 1) + 1) else r) = if i + 1 + k - i < (x :: r).length then (x :: r).take (i + 1 + k - i) ++ (x :: r).drop (i + 1 + k - i + 1) else x :: r
        rw [if_neg (by omega), show i + 1 + k - (i + 1) = k by omega, show i + 1 + k - i = k + 1 by omega, List.length_cons]
        by_cases q : k < r.length
        · rw [if_pos q, if_pos (by omega)]
          rfl
        · rw [if_neg q, if_neg (by omega)]
          rfl
theorem walk_is (sp : Spl) (l : List Nat) : walkS sp l 0 = once l sp := by
  rw [walk_once sp l 0 (Nat.zero_le _)]
  cases sp <;> rfl
theorem once_len (l : List Nat) (sp : Spl) : (once l sp).length ≤ l.length + 1 := by
  cases sp with
  | put n b =>
    show (if n ≤ l.length then l.take n ++ b :: l.drop n else l).length ≤ _
    split
    · rw [List.length_append, List.length_cons, List.length_take, List.length_drop]
      omega
    · omega
  | turn n =>
    show (if n < l.length then l.take n ++ flipB ((l[n]?).getD 0) :: l.drop (n + 1) else l).length ≤ _
    split
    · rw [List.length_append, List.length_cons, List.length_take, List.length_drop]
      omega
    · omega
  | lose n =>
    show (if n < l.length then l.take n ++ l.drop (n + 1) else l).length ≤ _
    split
    · rw [List.length_append, List.length_take, List.length_drop]
      omega
    · omega
def BitS : Spl → Prop
  | .put _ b => b = 48 ∨ b = 49
  | _ => True
theorem flipB_bit (c : Nat) : flipB c = 48 ∨ flipB c = 49 := by
  unfold flipB
  split
  · exact .inl rfl
  · exact .inr rfl
theorem once_bts {l : List Nat} {sp : Spl} (h : Bts l) (hs : BitS sp) : Bts (once l sp) := by
  cases sp with
  | put n b =>
    show Bts (if n ≤ l.length then l.take n ++ b :: l.drop n else l)
    split
    · exact (h.take n).app (fun c hc => by
        rcases List.mem_cons.mp hc with e | e
        · rw [e]; exact hs
        · exact h.drop n c e)
    · exact h
  | turn n =>
    show Bts (if n < l.length then l.take n ++ flipB ((l[n]?).getD 0) :: l.drop (n + 1) else l)
    split
    · exact (h.take n).app (fun c hc => by
        rcases List.mem_cons.mp hc with e | e
        · rw [e]; exact flipB_bit _
        · exact h.drop _ c e)
    · exact h
  | lose n =>
    show Bts (if n < l.length then l.take n ++ l.drop (n + 1) else l)
    split
    · exact (h.take n).app (h.drop _)
    · exact h
end Fp

set_option Elab.async false
set_option linter.all false
set_option maxRecDepth 100000
set_option maxHeartbeats 4000000
namespace K24
open PySem PySem.Spec PyProof.Rows L2 Fp
def topS (i : Nat) : Stmt := PySem.Challenge.pw_farpage_k24_spoils.main.body.getD i (.Pass ⟨0, 0, 0, 0⟩)
abbrev s_turned : Stmt := topS 1
abbrev N_turned : List Str := ["bit"]
abbrev P_turned : List Str := ["bit"]
theorem sc_turned : FnScope N_turned P_turned (defScope s_turned) := ⟨rfl, rfl, rfl, by decide +kernel, rfl, by decide +kernel, by decide +kernel⟩
abbrev s_spoiled : Stmt := topS 3
abbrev N_spoiled : List Str := ["bits", "spoils", "left", "spoil"]
abbrev P_spoiled : List Str := ["bits", "spoils"]
theorem sc_spoiled : FnScope N_spoiled P_spoiled (defScope s_spoiled) := ⟨rfl, rfl, rfl, by decide +kernel, rfl, by decide +kernel, by decide +kernel⟩
abbrev s_spoiled_once : Stmt := topS 4
abbrev N_spoiled_once : List Str := ["bits", "spoil", "place", "instead"]
abbrev P_spoiled_once : List Str := ["bits", "spoil"]
theorem sc_spoiled_once : FnScope N_spoiled_once P_spoiled_once (defScope s_spoiled_once) := ⟨rfl, rfl, rfl, by decide +kernel, rfl, by decide +kernel, by decide +kernel⟩
abbrev s_bag : Stmt := topS 6
abbrev N_bag : List Str := ["_law_script", "_law_at", "_law_cell", "_law_great"]
abbrev P_bag : List Str := ["_law_script", "_law_at"]
theorem sc_bag : FnScope N_bag P_bag (defScope s_bag) := ⟨rfl, rfl, rfl, by decide +kernel, rfl, by decide +kernel, by decide +kernel⟩
abbrev s_draw : Stmt := topS 7
abbrev N_draw : List Str := ["_law_bag_here", "_law_many", "_law_digit"]
abbrev P_draw : List Str := ["_law_bag_here", "_law_many"]
theorem sc_draw : FnScope N_draw P_draw (defScope s_draw) := ⟨rfl, rfl, rfl, by decide +kernel, rfl, by decide +kernel, by decide +kernel⟩
abbrev s_spoils : Stmt := topS 8
abbrev N_spoils : List Str := ["_law_bag_here", "_law_many", "_law_most", "_law_found", "_law_k", "_law_word", "_law_place"]
abbrev P_spoils : List Str := ["_law_bag_here", "_law_many", "_law_most"]
theorem sc_spoils : FnScope N_spoils P_spoils (defScope s_spoils) := ⟨rfl, rfl, rfl, by decide +kernel, rfl, by decide +kernel, by decide +kernel⟩
abbrev s_lspoiled : Stmt := topS 9
abbrev N_lspoiled : List Str := ["_law_bits", "_law_spoils_here", "_law_spoil", "_law_found", "_law_place"]
abbrev P_lspoiled : List Str := ["_law_bits", "_law_spoils_here"]
theorem sc_lspoiled : FnScope N_lspoiled P_lspoiled (defScope s_lspoiled) := ⟨rfl, rfl, rfl, by decide +kernel, rfl, by decide +kernel, by decide +kernel⟩
abbrev s_law : Stmt := topS 10
abbrev N_law : List Str := ["_law_script", "_law_k", "_law_bag_here", "_law_bits", "_law_spoils_here", "_law_some", "_law_handed", "_law_turn"]
abbrev P_law : List Str := ["_law_script"]
theorem sc_law : FnScope N_law P_law (defScope s_law) := ⟨rfl, rfl, rfl, by decide +kernel, rfl, by decide +kernel, by decide +kernel⟩
structure Ad where
  a_turned : Addr
  d_turned : FuncData
  a_spoiled : Addr
  d_spoiled : FuncData
  a_spoiled_once : Addr
  d_spoiled_once : FuncData
  a_bag : Addr
  d_bag : FuncData
  a_draw : Addr
  d_draw : FuncData
  a_spoils : Addr
  d_spoils : FuncData
  a_lspoiled : Addr
  d_lspoiled : FuncData
  a_law : Addr
  d_law : FuncData
structure Txt (w : World) (K : PySem.W.Frag) (mg : Str → Option Value) (base : Heap) (A : Ad) : Prop where
  F_turned : Fun K "turned" "turned" s_turned A.a_turned A.d_turned
  b_turned : Binds K A.d_turned P_turned []
  g_turned : mg "turned" = some (.ref A.a_turned)
  F_spoiled : Fun K "spoiled" "spoiled" s_spoiled A.a_spoiled A.d_spoiled
  b_spoiled : Binds K A.d_spoiled P_spoiled []
  g_spoiled : mg "spoiled" = some (.ref A.a_spoiled)
  F_spoiled_once : Fun K "spoiled_once" "spoiled_once" s_spoiled_once A.a_spoiled_once A.d_spoiled_once
  b_spoiled_once : Binds K A.d_spoiled_once P_spoiled_once []
  g_spoiled_once : mg "spoiled_once" = some (.ref A.a_spoiled_once)
  F_bag : Fun K "_law_bag" "_law_bag" s_bag A.a_bag A.d_bag
  b_bag : Binds K A.d_bag P_bag []
  g_bag : mg "_law_bag" = some (.ref A.a_bag)
  F_draw : Fun K "_law_draw" "_law_draw" s_draw A.a_draw A.d_draw
  b_draw : Binds K A.d_draw P_draw []
  g_draw : mg "_law_draw" = some (.ref A.a_draw)
  F_spoils : Fun K "_law_spoils" "_law_spoils" s_spoils A.a_spoils A.d_spoils
  b_spoils : Binds K A.d_spoils P_spoils []
  g_spoils : mg "_law_spoils" = some (.ref A.a_spoils)
  F_lspoiled : Fun K "_law_spoiled" "_law_spoiled" s_lspoiled A.a_lspoiled A.d_lspoiled
  b_lspoiled : Binds K A.d_lspoiled P_lspoiled []
  g_lspoiled : mg "_law_spoiled" = some (.ref A.a_lspoiled)
  F_law : Fun K "law" "law" s_law A.a_law A.d_law
  g_law : mg "law" = some (.ref A.a_law)
  z_abs : mg "abs" = none
  z_int : mg "int" = none
  z_len : mg "len" = none
  z_list : mg "list" = none
  z_max : mg "max" = none
  z_min : mg "min" = none
  z_range : mg "range" = none
section
variable {P : Program} {w : World} {K : PySem.W.Frag} {mg : Str → Option Value} {base : Heap}
def spBag (K : PySem.W.Frag) : Sp := fun vs H Q _ => ∃ (a : Addr) (ns : List Int) (k : Int), vs = [.ref a, .int k] ∧ SqL K H a (ns.map V.int) ∧ 0 ≤ k ∧ k ≤ 1000 ∧
  ∀ p g s, H p = none → 0 ≤ g → 0 ≤ s → s < 1000000000000 → Q (.ref p) (upd H p (.lst [.int g, .int s]))
theorem ok_bag {A : Ad} (T : Txt w K mg base A) : FnOk P w K mg base CX0 1 A.a_bag A.d_bag P_bag (spBag K) := by
  refine T.F_bag.ok sc_bag (fun vs H Q E h => ?_) (fun cdv Ar outer s H vs Q E hr h => ?_)
  · obtain ⟨a, ns, k, rfl, _⟩ := h
    rfl
  · obtain ⟨a, ns, k, rfl, hS, k0, k1, q⟩ := h
    refine ⟨_, (pss_cons (ps_set (i := 2) sc_bag.nd rfl (Or.inl rfl) pe_int)
      (pss_cons (ps_if (pt_cmpR op_lt (pv 1) (pe_callB (r := fun xs H Q => ∃ p ys, xs = [.ref p] ∧ (SqL K H p ys ∨ SqT K H p ys) ∧ Q (.int ys.length) H) call_len_seq (by rfl) T.z_len PySem.boot_len (pa_cons (pv 0) pa_nil)) (nomark _))
      (pss_one (ps_set (i := 2) sc_bag.nd rfl (Or.inl rfl) (pe_ix (r := rIxL K) ix_list (pv 0) (pv 1) (fun _ _ => rfl)))) pss_nil)
      (pss_cons (ps_set (i := 3) sc_bag.nd rfl (Or.inl rfl) pe_int)
      (pss_cons (ps_if (pt_cmpR op_ge (pe_callB call_abs (by rfl) T.z_abs (by decide +kernel) (pa_cons (pv 2) pa_nil)) (pe_op op_pow pe_int pe_int) (nomark _))
      (pss_one (ps_set (i := 3) sc_bag.nd rfl (Or.inl rfl) (pe_callB call_abs (by rfl) T.z_abs (by decide +kernel) (pa_cons (pv 2) pa_nil)))) pss_nil)
      (pss_one (ps_ret (pe_lst (pa_cons (pv 3) (pa_cons (pe_op op_add (pe_op op_add (pe_op op_mul (pe_op op_mod (pv 2) pe_int) pe_int) (pe_op op_mul pe_int (pv 1))) pe_int) pa_nil))))))))), ?_⟩
    have fin : ∀ (c g : Int), 0 ≤ g → tSeq (tIfS (tTest (tOp (rI0 fun i j => .bl (decide (j ≤ i))) (tCB (fun xs H Q => ∃ i, xs = [.int i] ∧ Q (.int (if i < 0 then -i else i)) H) (tCons (tVar 2) tNil)) (tOp (rI CPow fun i j => .int (i ^ j.toNat)) (tC (.int 10)) (tC (.int 18))))) (tAsg (tCB (fun xs H Q => ∃ i, xs = [.int i] ∧ Q (.int (if i < 0 then -i else i)) H) (tCons (tVar 2) tNil)) (gName 3)) tNext)
        (tRet (tLst (tCons (tVar 3) (tCons (tOp (rI0 fun i j => .int (i + j)) (tOp (rI0 fun i j => .int (i + j)) (tOp (rI CMul fun i j => .int (i * j)) (tOp (rI (fun _ j => 0 < j) fun i j => .int (i % j)) (tVar 2) (tC (.int 1000000007))) (tC (.int 7))) (tOp (rI CMul fun i j => .int (i * j)) (tC (.int 1013)) (tVar 1))) (tC (.int 5))) tNil)))) { nx := fun _ H' => Q .non H', rt := Q } [some (.ref a), some (.int k), some (.int c), some (.int g)] H := by
      intro c g g0
      have fin2 : ∀ (g : Int), 0 ≤ g → tRet (tLst (tCons (tVar 3) (tCons (tOp (rI0 fun i j => .int (i + j)) (tOp (rI0 fun i j => .int (i + j)) (tOp (rI CMul fun i j => .int (i * j)) (tOp (rI (fun _ j => 0 < j) fun i j => .int (i % j)) (tVar 2) (tC (.int 1000000007))) (tC (.int 7))) (tOp (rI CMul fun i j => .int (i * j)) (tC (.int 1013)) (tVar 1))) (tC (.int 5))) tNil))) { nx := fun _ H' => Q .non H', rt := Q } [some (.ref a), some (.int k), some (.int c), some (.int g)] H := by
        intro g g0
        have m0 := Int.emod_nonneg c (show (1000000007 : Int) ≠ 0 by decide)
        have m1 := Int.emod_lt_of_pos c (show (0 : Int) < 1000000007 by decide)
        refine ⟨_, rfl, _, rfl, _, _, rfl, rfl, (by show (0 : Int) < 1000000007; decide), _, _, rfl, rfl, .inr ⟨by decide, by decide⟩, _, rfl, _, _, rfl, rfl, .inl ⟨by decide, by decide⟩, _, _, rfl, rfl, _, _, rfl, rfl, (by show 2 ≤ sizeLine; decide), fun p hp => ?_⟩
        exact q p g _ hp g0 (by omega) (by omega)
      refine ⟨_, rfl, _, rfl, _, _, rfl, rfl, ⟨by decide, by decide, by decide⟩, _, _, rfl, rfl, _, rfl, ite2 (fun e => ?_) (fun e => ?_)⟩
      · refine ⟨_, rfl, _, rfl, fin2 _ ?_⟩
        split <;> omega
      · exact fin2 g g0
    refine ⟨_, rfl, _, rfl, _, _, rfl, .inl hS, _, _, rfl, rfl, _, rfl, ite2 (fun e => ?_) (fun e => ?_)⟩
    · have lt : k < ((ns.map V.int).length : Int) := of_decide_eq_true e
      obtain ⟨j, rfl⟩ := Int.eq_ofNat_of_zero_le k0
      have hj : j < ns.length := by
        rw [List.length_map] at lt
        omega
      have g : (ns.map V.int)[j]? = some (.int ns[j]) := by
        rw [List.getElem?_map, List.getElem?_eq_getElem hj]
        rfl
      refine ⟨_, rfl, _, rfl, _, _, _, _, rfl, rfl, hS, atI_nat g, ?_⟩
      exact fin _ 0 (Int.le_refl _)
    · exact fin 0 0 (Int.le_refl _)
def spDraw : Sp := fun vs H Q _ => ∃ (b : Addr) (m : Int), vs = [.ref b, .int m] ∧ BagAt H b ∧ 0 < m ∧ m < 1000000 ∧
  ∀ (d : Int) (H' : Hp), 0 ≤ d → d < m → Bx b H H' → Q (.int d) H'
theorem ok_draw {A : Ad} (T : Txt w K mg base A) : FnOk P w K mg base CX0 1 A.a_draw A.d_draw P_draw spDraw := by
  refine T.F_draw.ok sc_draw (fun vs H Q E h => ?_) (fun cdv Ar outer s H vs Q E hr h => ?_)
  · obtain ⟨b, m, rfl, _⟩ := h
    rfl
  · obtain ⟨b, m, rfl, ⟨g, s, hb, g0, s0, s1⟩, m0, m1, q⟩ := h
    refine ⟨_, (pss_cons (ps_if (pt_cmpR op_gt (pe_ix (r := rIxL K) ix_list (pv 0) pe_int (fun _ _ => rfl)) pe_int (nomark _))
      (pss_cons (ps_set (i := 2) sc_draw.nd rfl (Or.inl rfl) (pe_op op_mod (pe_ix (r := rIxL K) ix_list (pv 0) pe_int (fun _ _ => rfl)) (pv 1)))
      (pss_cons (ps_asg (pe_op op_fdiv (pe_ix (r := rIxL K) ix_list (pv 0) pe_int (fun _ _ => rfl)) (pv 1)) (pg_sub (pv 0) pe_int set_list))
      (pss_one (ps_ret (pv 2))))) pss_nil)
      (pss_cons (ps_asg (pe_op op_mod (pe_op op_add (pe_op op_mul (pe_ix (r := rIxL K) ix_list (pv 0) pe_int (fun _ _ => rfl)) pe_int) pe_int) pe_int) (pg_sub (pv 0) pe_int set_list))
      (pss_one (ps_ret (pe_op op_mod (pe_op op_mod (pe_op op_pow (pe_op op_fdiv (pe_ix (r := rIxL K) ix_list (pv 0) pe_int (fun _ _ => rfl)) pe_int) pe_int) pe_int) (pv 1)))))), ?_⟩
    refine ⟨_, rfl, _, _, _, _, rfl, rfl, SqL.of hb, atI_nat (j := 0) rfl, _, _, rfl, rfl, _, rfl, ite2 (fun e => ?_) (fun e => ?_)⟩
    · refine ⟨_, rfl, _, _, _, _, rfl, rfl, SqL.of hb, atI_nat (j := 0) rfl, _, rfl, _, _, rfl, rfl, m0, ?_⟩
      refine ⟨_, rfl, _, _, _, _, rfl, rfl, SqL.of hb, atI_nat (j := 0) rfl, _, rfl, _, _, rfl, rfl, ⟨m0, by omega⟩, _, rfl, _, _, _, _, rfl, rfl, hb, Evl.ixN_nat (j := 0) (by show 0 < 2; decide), ?_⟩
      refine ⟨_, rfl, ?_⟩
      exact q _ _ (Int.emod_nonneg _ (by omega)) (Int.emod_lt_of_pos _ m0) (Bx.drawn (Int.ediv_nonneg g0 (by omega)) s0 s1)
    · have t0 := Int.emod_nonneg (s * 69621 + 1234567) (show (2147483647 : Int) ≠ 0 by decide)
      have t1 := Int.emod_lt_of_pos (s * 69621 + 1234567) (show (0 : Int) < 2147483647 by decide)
      refine ⟨_, rfl, _, _, _, _, rfl, rfl, SqL.of hb, atI_nat (j := 1) rfl, _, _, rfl, rfl, .inr ⟨by decide, by decide⟩, _, _, rfl, rfl, _, _, rfl, rfl, (by show (0 : Int) < 2147483647; decide), _, rfl, _, _, _, _, rfl, rfl, hb, Evl.ixN_nat (j := 1) (by show 1 < 2; decide), ?_⟩
      refine ⟨_, rfl, _, _, _, _, rfl, rfl, SqL.of upd_same, atI_nat (j := 1) rfl, _, _, rfl, rfl, ⟨by decide, by decide⟩, _, _, rfl, rfl, ⟨by decide, by decide, ?_⟩, _, _, rfl, rfl, (by show (0 : Int) < 998244353; decide), _, rfl, _, _, rfl, rfl, m0, ?_⟩
      · omega
      · exact q _ _ (Int.emod_nonneg _ (by omega)) (Int.emod_lt_of_pos _ m0) (Bx.drawn g0 t0 (by omega))

/-! ### the program's spoils -/
def spV : Spl → List V
  | .turn n => [.str (Str.ofString "turn"), .int (n : Int)]
  | .lose n => [.str (Str.ofString "lose"), .int (n : Int)]
  | .put n b => [.str (Str.ofString "put"), .int (n : Int), .str (sOf [b])]
def SpsAt (H : Hp) : List V → List Spl → Prop
  | [], [] => True
  | v :: vs, sp :: sps => (∃ a, v = .ref a ∧ H a = some (.tup (spV sp))) ∧ SpsAt H vs sps
  | _, _ => False
theorem SpsAt.len {H : Hp} : ∀ {vs : List V} {sps : List Spl}, SpsAt H vs sps → vs.length = sps.length
  | [], [], _ => rfl
  | _ :: vs, _ :: sps, h => by rw [List.length_cons, List.length_cons, SpsAt.len h.2]
  | [], _ :: _, h => h.elim
  | _ :: _, [], h => h.elim
theorem SpsAt.get {H : Hp} : ∀ {vs : List V} {sps : List Spl} {i : Nat} {v : V}, SpsAt H vs sps → vs[i]? = some v → ∃ sp a, sps[i]? = some sp ∧ v = .ref a ∧ H a = some (.tup (spV sp))
  | [], [], _, _, _, e => by cases e
  | x :: vs, sp :: sps, 0, v, h, e => by
    obtain ⟨⟨a, h1, h2⟩, _⟩ := h
    have : x = v := Option.some.inj e
    exact ⟨sp, a, rfl, by rw [← this, h1], h2⟩
  | x :: vs, sp :: sps, i + 1, v, h, e => SpsAt.get (i := i) h.2 e
  | [], _ :: _, _, _, h, _ => h.elim
  | _ :: _, [], _, _, h, _ => h.elim
theorem SpsAt.mono {H H' : Hp} : ∀ {vs : List V} {sps : List Spl}, SpsAt H vs sps → (∀ a xs, H a = some (.tup xs) → H' a = some (.tup xs)) → SpsAt H' vs sps
  | [], [], _, _ => trivial
  | x :: vs, sp :: sps, h, m => by
    obtain ⟨⟨a, h1, h2⟩, h3⟩ := h
    exact ⟨⟨a, h1, m _ _ h2⟩, SpsAt.mono h3 m⟩
  | [], _ :: _, h, _ => h.elim
  | _ :: _, [], h, _ => h.elim
theorem SpsAt.app {H : Hp} {ws : List V} {tps : List Spl} (k : SpsAt H ws tps) : ∀ {vs : List V} {sps : List Spl}, SpsAt H vs sps → SpsAt H (vs ++ ws) (sps ++ tps)
  | [], [], _ => k
  | x :: vs, sp :: sps, h => ⟨h.1, SpsAt.app k h.2⟩
  | [], _ :: _, h => h.elim
  | _ :: _, [], h => h.elim
theorem SpsAt.take {H : Hp} : ∀ {vs : List V} {sps : List Spl} (n : Nat), SpsAt H vs sps → SpsAt H (vs.take n) (sps.take n)
  | [], [], n, _ => by rw [List.take_nil, List.take_nil]; trivial
  | x :: vs, sp :: sps, 0, h => trivial
  | x :: vs, sp :: sps, n + 1, h => ⟨h.1, SpsAt.take n h.2⟩
  | [], _ :: _, _, h => h.elim
  | _ :: _, [], _, h => h.elim
def spTurned : Sp := fun vs H Q _ => ∃ c : Nat, vs = [.str (sOf [c])] ∧ Q (.str (sOf [flipB c])) H
theorem ok_turned {A : Ad} (T : Txt w K mg base A) : FnOk P w K mg base CX0 1 A.a_turned A.d_turned P_turned spTurned := by
  refine T.F_turned.ok sc_turned (fun vs H Q E h => ?_) (fun cdv Ar outer s H vs Q E hr h => ?_)
  · obtain ⟨c, rfl, _⟩ := h
    rfl
  · obtain ⟨c, rfl, q⟩ := h
    refine ⟨_, (pss_one (ps_ret (pe_ifExp (pt_cmpR op_eq (pv 0) pe_str (nomark _)) pe_str pe_str))), ?_⟩
    unfold flipB at q
    refine ⟨_, rfl, rfl, _, rfl, ite2 (fun e => ?_) (fun e => ?_)⟩
    · have e : c = 49 := vstr1.mp (of_decide_eq_true e)
      rw [if_pos e] at q
      exact q
    · have e : ¬ c = 49 := fun z => e (decide_eq_true (vstr1.mpr z))
      rw [if_neg e] at q
      exact q
theorem ne_word {a b : Str} (h : a ≠ b) : ¬ (V.str a = V.str b) := fun e => h (V.str.inj e)
def spOnce (K : PySem.W.Frag) : Sp := fun vs H Q _ => ∃ (l : List Nat) (a : Addr) (sp : Spl), vs = [.str (sOf l), .ref a] ∧ SqT K H a (spV sp) ∧ l.length ≤ 90000 ∧ Q (.str (sOf (once l sp))) H
theorem ok_spoiled_once {A : Ad} (T : Txt w K mg base A) : FnOk P w K mg base CX0 2 A.a_spoiled_once A.d_spoiled_once P_spoiled_once (spOnce K) := by
  have G_turned := ok_turned (P := P) (w := w) (base := base) T
  refine T.F_spoiled_once.ok sc_spoiled_once (fun vs H Q E h => ?_) (fun cdv Ar outer s H vs Q E hr h => ?_)
  · obtain ⟨l, a, sp, rfl, _⟩ := h
    rfl
  · obtain ⟨l, a, sp, rfl, ha, ll, q⟩ := h
    refine ⟨_, (pss_cons (ps_set (i := 2) sc_spoiled_once.nd rfl (Or.inl rfl) (pe_ix (r := rIxT K) ix_tup (pv 1) pe_int (fun _ _ => rfl)))
      (pss_cons (ps_if (pt_cmpR op_eq (pe_ix (r := rIxT K) ix_tup (pv 1) pe_int (fun _ _ => rfl)) pe_str (nomark _))
      (pss_cons (ps_if (pt_chain op_le op_le pe_int (pv 2) (pe_callB call_len_str (by rfl) T.z_len PySem.boot_len (pa_cons (pv 0) pa_nil)))
      (pss_one (ps_ret (pe_op op_add_str (pe_op op_add_str (pe_slice sl_str (pv 0) po_none (po_some (pv 2))) (pe_ix (r := rIxT K) ix_tup (pv 1) pe_int (fun _ _ => rfl))) (pe_slice sl_str (pv 0) (po_some (pv 2)) po_none)))) pss_nil)
      (pss_one (ps_ret (pv 0)))) pss_nil)
      (pss_cons (ps_if (pt_not (pt_chain op_le op_lt pe_int (pv 2) (pe_callB call_len_str (by rfl) T.z_len PySem.boot_len (pa_cons (pv 0) pa_nil))))
      (pss_one (ps_ret (pv 0))) pss_nil)
      (pss_cons (ps_set (i := 3) sc_spoiled_once.nd rfl (Or.inl rfl) (pe_ifExp (pt_cmpR op_eq (pe_ix (r := rIxT K) ix_tup (pv 1) pe_int (fun _ _ => rfl)) pe_str (nomark _)) (pe_call G_turned (hr.mono (by decide)) (by rfl) T.g_turned T.F_turned.kp T.b_turned .nil pass0 (pa_cons (pe_ix ix_str (pv 0) (pv 2) (fun _ _ => rfl)) pa_nil)) pe_str))
      (pss_one (ps_ret (pe_op op_add_str (pe_op op_add_str (pe_slice sl_str (pv 0) po_none (po_some (pv 2))) (pv 3)) (pe_slice sl_str (pv 0) (po_some (pe_op op_add (pv 2) pe_int)) po_none)))))))), ?_⟩
    have hl : (sOf l).length ≤ sizeLine := by
      rw [sOf_len]
      exact sz (by omega)
    have tl : ∀ n, (sOf (l.take n)).length ≤ 90000 := fun n => by
      rw [sOf_len, List.length_take]
      omega
    have dl : ∀ n, (sOf (l.drop n)).length ≤ 90000 := fun n => by
      rw [sOf_len, List.length_drop]
      omega
    have szA : ∀ {x y : Str}, x.length ≤ 90002 → y.length ≤ 90002 → x.length + y.length ≤ sizeLine := fun h1 h2 => Nat.le_trans (Nat.add_le_add h1 h2) (by decide)
    cases sp with
    | put n b =>
      refine ⟨_, rfl, _, _, _, _, rfl, rfl, ha, atI_nat (j := 1) rfl, ?_⟩
      refine ⟨_, rfl, _, _, _, _, rfl, rfl, ha, atI_nat (j := 0) rfl, rfl, _, rfl, iteD1 rfl ?_⟩
      refine ⟨_, rfl, _, _, rfl, rfl, _, rfl, iteD1 (by omega) ?_⟩
      refine ⟨_, rfl, _, rfl, hl, _, _, rfl, rfl, _, rfl, ?_⟩
      have q : Q (.str (sOf (if n ≤ l.length then l.take n ++ b :: l.drop n else l))) H := q
      rw [sOf_len]
      refine ite2 (fun e => ?_) (fun e => ?_)
      · have e : n ≤ l.length := by have := of_decide_eq_true e; omega
        rw [if_pos e] at q
        refine ⟨_, rfl, _, rfl, _, rfl, _, rfl, hl, _, rfl, _, _, _, _, rfl, rfl, ha, atI_nat (j := 2) rfl, _, _, rfl, rfl, ?_, _, rfl, _, rfl, _, rfl, _, rfl, hl, _, _, rfl, rfl, ?_, ?_⟩
        · rw [cutS_upto]
          exact szA (Nat.le_trans (tl n) (by decide)) (by rw [sOf_len]; show 1 ≤ 90002; decide)
        · rw [cutS_upto, cutS_from, sOf_app]
          exact szA (by rw [sOf_len, List.length_append, List.length_take]; show min n l.length + 1 ≤ _; omega) (Nat.le_trans (dl n) (by decide))
        · rw [cutS_upto, cutS_from, sOf_app, sOf_app, List.append_assoc]
          exact q
      · have e : ¬ n ≤ l.length := fun z => e (decide_eq_true (by omega))
        rw [if_neg e] at q
        exact ⟨_, rfl, q⟩
    | turn n =>
      refine ⟨_, rfl, _, _, _, _, rfl, rfl, ha, atI_nat (j := 1) rfl, ?_⟩
      refine ⟨_, rfl, _, _, _, _, rfl, rfl, ha, atI_nat (j := 0) rfl, rfl, _, rfl, iteD0 (ne_word (by decide)) ?_⟩
      have q : Q (.str (sOf (if n < l.length then l.take n ++ flipB ((l[n]?).getD 0) :: l.drop (n + 1) else l))) H := q
      refine ⟨_, rfl, _, _, rfl, rfl, _, rfl, iteD1 (by omega) ?_⟩
      refine ⟨_, rfl, _, rfl, hl, _, _, rfl, rfl, _, rfl, ?_⟩
      rw [sOf_len]
      by_cases e : n < l.length
      · rw [if_pos e] at q
        refine iteN0 (by omega) ?_
        refine ⟨_, rfl, _, _, _, _, rfl, rfl, ha, atI_nat (j := 0) rfl, rfl, _, rfl, iteD1 rfl ?_⟩
        have e1 : l[n]? = some l[n] := List.getElem?_eq_getElem e
        rw [e1] at q
        refine ⟨_, rfl, _, rfl, _, _, _, rfl, rfl, hl, sOf_at e1, _, rfl, ?_⟩
        refine ⟨_, rfl, _, rfl, _, rfl, _, rfl, hl, _, rfl, _, _, rfl, rfl, ?_, _, rfl, _, rfl, _, _, rfl, rfl, _, rfl, _, rfl, hl, _, _, rfl, rfl, ?_, ?_⟩
        · rw [cutS_upto]
          exact szA (Nat.le_trans (tl n) (by decide)) (by rw [sOf_len]; show 1 ≤ 90002; decide)
        · rw [cutS_upto, show ((n : Int) + 1) = ((n + 1 : Nat) : Int) from rfl, cutS_from, sOf_app]
          exact szA (by rw [sOf_len, List.length_append, List.length_take]; show min n l.length + 1 ≤ _; omega) (Nat.le_trans (dl _) (by decide))
        · rw [cutS_upto, show ((n : Int) + 1) = ((n + 1 : Nat) : Int) from rfl, cutS_from, sOf_app, sOf_app, List.append_assoc]
          exact q
      · rw [if_neg e] at q
        refine iteN1 (by omega) ?_
        exact ⟨_, rfl, q⟩
    | lose n =>
      refine ⟨_, rfl, _, _, _, _, rfl, rfl, ha, atI_nat (j := 1) rfl, ?_⟩
      refine ⟨_, rfl, _, _, _, _, rfl, rfl, ha, atI_nat (j := 0) rfl, rfl, _, rfl, iteD0 (ne_word (by decide)) ?_⟩
      have q : Q (.str (sOf (if n < l.length then l.take n ++ l.drop (n + 1) else l))) H := q
      refine ⟨_, rfl, _, _, rfl, rfl, _, rfl, iteD1 (by omega) ?_⟩
      refine ⟨_, rfl, _, rfl, hl, _, _, rfl, rfl, _, rfl, ?_⟩
      rw [sOf_len]
      by_cases e : n < l.length
      · rw [if_pos e] at q
        refine iteN0 (by omega) ?_
        refine ⟨_, rfl, _, _, _, _, rfl, rfl, ha, atI_nat (j := 0) rfl, rfl, _, rfl, iteD0 (ne_word (by decide)) ?_⟩
        refine ⟨_, rfl, _, rfl, _, rfl, _, rfl, hl, _, rfl, _, _, rfl, rfl, ?_, _, rfl, _, rfl, _, _, rfl, rfl, _, rfl, _, rfl, hl, _, _, rfl, rfl, ?_, ?_⟩
        · rw [cutS_upto]
          exact szA (Nat.le_trans (tl n) (by decide)) (by decide)
        · rw [cutS_upto, show ((n : Int) + 1) = ((n + 1 : Nat) : Int) from rfl, cutS_from, show Str.ofString "" = sOf [] from rfl, sOf_app, List.append_nil]
          exact szA (Nat.le_trans (tl n) (by decide)) (Nat.le_trans (dl _) (by decide))
        · rw [cutS_upto, show ((n : Int) + 1) = ((n + 1 : Nat) : Int) from rfl, cutS_from, show Str.ofString "" = sOf [] from rfl, sOf_app, List.append_nil, sOf_app]
          exact q
      · rw [if_neg e] at q
        refine iteN1 (by omega) ?_
        exact ⟨_, rfl, q⟩
theorem spoil_len : ∀ (sps : List Spl) (l : List Nat), (spoilL l sps).length ≤ l.length + sps.length
  | [], l => Nat.le_refl _
  | sp :: r, l => by
    have h1 := spoil_len r (once l sp)
    have h2 := once_len l sp
    show (spoilL (once l sp) r).length ≤ _
    rw [List.length_cons]
    omega
theorem spoil_more {sps : List Spl} {i : Nat} {sp : Spl} (l : List Nat) (h : sps[i]? = some sp) : spoilL l (sps.take (i + 1)) = once (spoilL l (sps.take i)) sp := by
  rw [take_more sps i sp h]
  unfold spoilL
  rw [List.foldl_append]
  rfl
def spSpoiled (K : PySem.W.Frag) : Sp := fun vs H Q _ => ∃ (l : List Nat) (a : Addr) (ws : List V) (sps : List Spl), vs = [.str (sOf l), .ref a] ∧ SqL K H a ws ∧ SpsAt H ws sps ∧ l.length ≤ 80000 ∧ sps.length ≤ 1000 ∧ Q (.str (sOf (spoilL l sps))) H
theorem ok_spoiled {A : Ad} (T : Txt w K mg base A) : FnOk P w K mg base CX0 3 A.a_spoiled A.d_spoiled P_spoiled (spSpoiled K) := by
  have G_spoiled_once := ok_spoiled_once (P := P) (w := w) (base := base) T
  refine T.F_spoiled.ok sc_spoiled (fun vs H Q E h => ?_) (fun cdv Ar outer s H vs Q E hr h => ?_)
  · obtain ⟨l, a, ws, sps, rfl, _⟩ := h
    rfl
  · obtain ⟨l, a, ws, sps, rfl, ha, hs, ll, ls, q⟩ := h
    refine ⟨_, (pss_cons (ps_set (i := 2) sc_spoiled.nd rfl (Or.inl rfl) (pv 0))
      (pss_cons (ps_for PassesOwn.never rfl (pi_list (pv 1)) (pg_name (i := 3) sc_spoiled.nd rfl (Or.inl rfl))
      (pss_one (ps_set (i := 2) sc_spoiled.nd rfl (Or.inl rfl) (pe_call G_spoiled_once (hr.mono (by decide)) (by rfl) T.g_spoiled_once T.F_spoiled_once.kp T.b_spoiled_once .nil pass0 (pa_cons (pv 2) (pa_cons (pv 3) pa_nil))))))
      (pss_one (ps_ret (pv 2))))), ?_⟩
    refine ⟨_, rfl, _, rfl, a, rfl, ⟨_, ha⟩, for_list (K := K) (a := a) (xs := ws) (fun i σ H' => ∃ y3 : Option V, σ = [some (.str (sOf l)), some (.ref a), some (.str (sOf (spoilL l (sps.take i)))), y3] ∧ H' = H) ⟨none, rfl, rfl⟩ (fun i σ H' _ ⟨_, _, e⟩ => by rw [e]; exact ha) ?_ ?_⟩
    · rintro i x σ H1 hx ⟨y3, rfl, rfl⟩
      obtain ⟨sp, b, hsp, rfl, hb⟩ := hs.get hx
      have := spoil_len (sps.take i) l
      rw [List.length_take] at this
      refine ⟨_, rfl, _, rfl, _, b, sp, rfl, SqT.of hb, by omega, ?_⟩
      rw [← spoil_more l hsp]
      exact ⟨_, rfl, rfl⟩
    · rintro σ H1 ⟨y3, rfl, rfl⟩
      rw [hs.len, List.take_length]
      exact ⟨_, rfl, q⟩

/-! ### spoils are drawn -/
def GoodS (mo : Int) (sp : Spl) : Prop := (plc sp : Int) < mo + 2 ∧ BitS sp
def spSpoils : Sp := fun vs H Q _ => ∃ (b : Addr) (m mo : Int), vs = [.ref b, .int m, .int mo] ∧ BagAt H b ∧ 0 ≤ m ∧ m ≤ 100 ∧ 0 ≤ mo ∧ mo ≤ 100000 ∧
  ∀ p ws sps H', H p = none → Bx b H H' → H' p = some (.lst ws) → SpsAt H' ws sps → (sps.length : Int) = m → (∀ sp ∈ sps, GoodS mo sp) → Q (.ref p) H'
theorem ok_spoils {A : Ad} (T : Txt w K mg base A) : FnOk P w K mg base CX0 2 A.a_spoils A.d_spoils P_spoils spSpoils := by
  have G_draw := ok_draw (P := P) (w := w) (base := base) T
  refine T.F_spoils.ok sc_spoils (fun vs H Q E h => ?_) (fun cdv Ar outer s H vs Q E hr h => ?_)
  · obtain ⟨b, m, mo, rfl, _⟩ := h
    rfl
  · obtain ⟨b, m, mo, rfl, hb, m0, m1, o0, o1, q⟩ := h
    obtain ⟨m, rfl⟩ := Int.eq_ofNat_of_zero_le m0
    refine ⟨_, (pss_cons (ps_set (i := 3) sc_spoils.nd rfl (Or.inl rfl) (pe_lst pa_nil))
      (pss_cons (ps_for PassesOwn.never rfl (pi_range1 (by rfl) T.z_range (pa_cons (pv 1) pa_nil)) (pg_name (i := 4) sc_spoils.nd rfl (Or.inl rfl))
      (pss_cons (ps_set (i := 5) sc_spoils.nd rfl (Or.inl rfl) (pe_ix (r := rIxL K) ix_list (pe_lst (pa_cons pe_str (pa_cons pe_str (pa_cons pe_str pa_nil)))) (pe_call G_draw (hr.mono (by decide)) (by rfl) T.g_draw T.F_draw.kp T.b_draw .nil pass0 (pa_cons (pv 0) (pa_cons pe_int pa_nil))) (fun _ _ => rfl)))
      (pss_cons (ps_set (i := 6) sc_spoils.nd rfl (Or.inl rfl) (pe_call G_draw (hr.mono (by decide)) (by rfl) T.g_draw T.F_draw.kp T.b_draw .nil pass0 (pa_cons (pv 0) (pa_cons (pe_op op_add (pv 2) pe_int) pa_nil))))
      (pss_one (ps_if (pt_cmpR op_eq (pv 5) pe_str (nomark _))
      (pss_one (ps_expr (pe_bm PySem.F.plainAttrs_list PySem.F.slot_list_append PySem.F.type_list_append mt_append (pv 3) (pa_cons (pe_tup (pa_cons (pv 5) (pa_cons (pv 6) (pa_cons (pe_ix ix_str pe_str (pe_call G_draw (hr.mono (by decide)) (by rfl) T.g_draw T.F_draw.kp T.b_draw .nil pass0 (pa_cons (pv 0) (pa_cons pe_int pa_nil))) (fun _ _ => rfl)) pa_nil)))) pa_nil)))) (pss_one (ps_expr (pe_bm PySem.F.plainAttrs_list PySem.F.slot_list_append PySem.F.type_list_append mt_append (pv 3) (pa_cons (pe_tup (pa_cons (pv 5) (pa_cons (pv 6) pa_nil))) pa_nil)))))))))
      (pss_one (ps_ret (pv 3))))), ?_⟩
    refine ⟨(by show 0 ≤ sizeLine; decide), fun p hp => ?_⟩
    have np : p ≠ b := BagAt.ne hb hp
    refine ⟨_, rfl, _, rfl, by omega, by omega, for_range (lo := 0) (n := m) (fun i σ H' => ∃ (ws : List V) (sps : List Spl) (y4 y5 y6 : Option V), σ = [some (.ref b), some (.int (m : Int)), some (.int mo), some (.ref p), y4, y5, y6] ∧ Bx b H H' ∧ H' p = some (.lst ws) ∧ SpsAt H' ws sps ∧ sps.length = i ∧ ∀ sp ∈ sps, GoodS mo sp)
      ⟨[], [], none, none, none, rfl, (Bx.refl hb).same (same_new hp), upd_same, trivial, rfl, fun _ h => nomatch h⟩ ?_ ?_⟩
    · rintro i σ H1 hi ⟨ws, sps, y4, y5, y6, rfl, bx, hp1, hs, ls, gs⟩
      have fin : ∀ (sp : Spl) (t : Addr) (H2 H3 : Hp) (y5 y6 : Option V), Bx b H1 H2 → H2 t = none → GoodS mo sp → H3 = upd (upd H2 t (.tup (spV sp))) p (.lst (ws ++ [.ref t])) → ∃ (ws : List V) (sps : List Spl) (z4 z5 z6 : Option V), [some (.ref b), some (.int (m : Int)), some (.int mo), some (.ref p), some (V.int (0 + (i : Int))), y5, y6] = [some (.ref b), some (.int (m : Int)), some (.int mo), some (.ref p), z4, z5, z6] ∧ Bx b H H3 ∧ H3 p = some (.lst ws) ∧ SpsAt H3 ws sps ∧ sps.length = i + 1 ∧ ∀ sp ∈ sps, GoodS mo sp := by
        intro sp t H2 H3 y5 y6 bx2 ht g e
        have tp : t ≠ p := (ne_of_none (bx2.2 _ _ np hp1) ht).symm
        subst e
        refine ⟨_, sps ++ [sp], _, _, _, rfl, ((bx.trans bx2).same (same_new ht)).mut hp np, upd_same, SpsAt.app (ws := [.ref t]) (tps := [sp]) (And.intro ⟨t, rfl, by rw [upd_ne tp, upd_same]⟩ trivial) (hs.mono fun a xs ha => ?_), by rw [List.length_append, ls]; rfl, fun x hx => ?_⟩
        · have h2 := bx2.2 _ _ (bx.1.tup ha) ha
          have n1 : a ≠ p := fun z => by
            rw [z, hp1] at ha
            cases ha
          rw [upd_ne n1, upd_ne (ne_of_none h2 ht)]
          exact h2
        · rcases List.mem_append.mp hx with h | h
          · exact gs x h
          · rw [List.mem_singleton.mp h]
            exact g
      refine ⟨(by show 3 ≤ sizeLine; decide), fun q1 hq1 => ⟨_, rfl, b, 3, rfl, (bx.same (same_new hq1)).1, by decide, by decide, fun d H2 d0 d1 bx2 => ?_⟩⟩
      have nq : q1 ≠ b := BagAt.ne bx.1 hq1
      have hq2 := bx2.2 _ _ nq (upd_same (H := H1) (a := q1) (o := .lst [.str (Str.ofString "turn"), .str (Str.ofString "lose"), .str (Str.ofString "put")]))
      have bx12 : Bx b H1 H2 := ((Bx.refl bx.1).same (same_new hq1)).trans bx2
      have dd : d = 0 ∨ d = 1 ∨ d = 2 := by omega
      rcases dd with rfl | rfl | rfl
      · refine ⟨_, _, _, _, rfl, rfl, SqL.of hq2, atI_nat (j := 0) rfl, ?_⟩
        refine ⟨_, rfl, _, rfl, _, _, rfl, rfl, b, _, rfl, bx12.1, by omega, by omega, fun n H3 n0 n1 bx3 => ?_⟩
        obtain ⟨n, rfl⟩ := Int.eq_ofNat_of_zero_le n0
        have bx13 := bx12.trans bx3
        refine ⟨_, rfl, rfl, _, rfl, iteD0 (ne_word (by decide)) ?_⟩
        have hp3 := bx13.2 _ _ np hp1
        refine ⟨_, rfl, .inl ⟨rfl, _, SqL.of hp3⟩, _, rfl, _, rfl, (by show 2 ≤ sizeLine; decide), fun t ht => ?_⟩
        refine ⟨p, _, _, rfl, rfl, by rw [upd_ne (ne_of_none hp3 ht)]; exact hp3, by rw [hs.len]; exact szl (by omega), ?_⟩
        exact fin (.turn n) t H3 _ _ _ bx13 ht ⟨n1, trivial⟩ rfl
      · refine ⟨_, _, _, _, rfl, rfl, SqL.of hq2, atI_nat (j := 1) rfl, ?_⟩
        refine ⟨_, rfl, _, rfl, _, _, rfl, rfl, b, _, rfl, bx12.1, by omega, by omega, fun n H3 n0 n1 bx3 => ?_⟩
        obtain ⟨n, rfl⟩ := Int.eq_ofNat_of_zero_le n0
        have bx13 := bx12.trans bx3
        refine ⟨_, rfl, rfl, _, rfl, iteD0 (ne_word (by decide)) ?_⟩
        have hp3 := bx13.2 _ _ np hp1
        refine ⟨_, rfl, .inl ⟨rfl, _, SqL.of hp3⟩, _, rfl, _, rfl, (by show 2 ≤ sizeLine; decide), fun t ht => ?_⟩
        refine ⟨p, _, _, rfl, rfl, by rw [upd_ne (ne_of_none hp3 ht)]; exact hp3, by rw [hs.len]; exact szl (by omega), ?_⟩
        exact fin (.lose n) t H3 _ _ _ bx13 ht ⟨n1, trivial⟩ rfl
      · refine ⟨_, _, _, _, rfl, rfl, SqL.of hq2, atI_nat (j := 2) rfl, ?_⟩
        refine ⟨_, rfl, _, rfl, _, _, rfl, rfl, b, _, rfl, bx12.1, by omega, by omega, fun n H3 n0 n1 bx3 => ?_⟩
        obtain ⟨n, rfl⟩ := Int.eq_ofNat_of_zero_le n0
        have bx13 := bx12.trans bx3
        refine ⟨_, rfl, rfl, _, rfl, iteD1 rfl ?_⟩
        have hp3 := bx13.2 _ _ np hp1
        refine ⟨_, rfl, .inl ⟨rfl, _, SqL.of hp3⟩, _, rfl, _, rfl, _, rfl, b, 2, rfl, bx13.1, by decide, by decide, fun e H4 e0 e1 bx4 => ⟨_, _, _, rfl, rfl, two_len', bit_at e0 e1, (by show 3 ≤ sizeLine; decide), fun t ht => ?_⟩⟩
        have hp4 := bx4.2 _ _ np hp3
        refine ⟨p, _, _, rfl, rfl, by rw [upd_ne (ne_of_none hp4 ht)]; exact hp4, by rw [hs.len]; exact szl (by omega), ?_⟩
        exact fin (.put n (bitN e)) t H4 _ _ _ (bx13.trans bx4) ht ⟨n1, bitN_bit e⟩ rfl
    · rintro σ H1 ⟨ws, sps, y4, y5, y6, rfl, bx, hp1, hs, ls, gs⟩
      exact ⟨_, rfl, q p ws sps H1 hp bx hp1 hs (by rw [ls]) gs⟩

/-! ### the law's spoils, place by place -/
theorem lit_one (c : Nat) (h : c = 48 ∨ c = 49) : PySem.intText? (sOf [c]) = some ((c : Int) - 48) := by
  rcases h with rfl | rfl <;> decide +kernel
theorem walk_step {sp : Spl} {l : List Nat} {i : Nat} (hi : i ≤ l.length) : walkS sp (l.drop i) i = stepA sp i ++ ((if i < l.length then stepB sp i ((l[i]?).getD 0) else []) ++ (if i + 1 ≤ l.length then walkS sp (l.drop (i + 1)) (i + 1) else [])) := by
  by_cases h : i < l.length
  · rw [if_pos h, if_pos (by omega), List.drop_eq_getElem_cons h, List.getElem?_eq_getElem h]
    show stepA sp i ++ stepB sp i l[i] ++ walkS sp (l.drop (i + 1)) (i + 1) = _
    rw [List.append_assoc]
    rfl
  · rw [if_neg h, if_neg (by omega), List.drop_eq_nil_of_le (by omega)]
    show stepA sp i = _
    rw [List.append_nil, List.append_nil]
theorem walk_len (sp : Spl) (l : List Nat) : (walkS sp l 0).length ≤ l.length + 1 := by
  rw [walk_is]
  exact once_len l sp
def spLSpoiled (K : PySem.W.Frag) : Sp := fun vs H Q _ => ∃ (l : List Nat) (a : Addr) (ws : List V) (sps : List Spl), vs = [.str (sOf l), .ref a] ∧ SqL K H a ws ∧ SpsAt H ws sps ∧ Bts l ∧ (∀ sp ∈ sps, BitS sp) ∧ l.length ≤ 80000 ∧ sps.length ≤ 1000 ∧ Q (.str (sOf (spoilL l sps))) H
theorem spoil_bts : ∀ {sps : List Spl} {l : List Nat}, Bts l → (∀ sp ∈ sps, BitS sp) → Bts (spoilL l sps)
  | [], l, h, _ => h
  | sp :: r, l, h, k => spoil_bts (sps := r) (once_bts h (k sp (List.mem_cons_self ..))) fun x hx => k x (List.mem_cons_of_mem _ hx)
theorem ok_lspoiled {A : Ad} (T : Txt w K mg base A) : FnOk P w K mg base CX0 1 A.a_lspoiled A.d_lspoiled P_lspoiled (spLSpoiled K) := by
  refine T.F_lspoiled.ok sc_lspoiled (fun vs H Q E h => ?_) (fun cdv Ar outer s H vs Q E hr h => ?_)
  · obtain ⟨l, a, ws, sps, rfl, _⟩ := h
    rfl
  · obtain ⟨l, a, ws, sps, rfl, ha, hs, bl, bs, ll, ls, q⟩ := h
    refine ⟨_, (pss_cons (ps_for PassesOwn.never rfl (pi_list (pv 1)) (pg_name (i := 2) sc_lspoiled.nd rfl (Or.inl rfl))
      (pss_cons (ps_set (i := 3) sc_lspoiled.nd rfl (Or.inl rfl) pe_str)
      (pss_cons (ps_for PassesOwn.never rfl (pi_range1 (by rfl) T.z_range (pa_cons (pe_op op_add (pe_callB call_len_str (by rfl) T.z_len PySem.boot_len (pa_cons (pv 0) pa_nil)) pe_int) pa_nil)) (pg_name (i := 4) sc_lspoiled.nd rfl (Or.inl rfl))
      (Evl.pss_cut (ps_if (PW.pt (pw_and (pt_cmpR op_eq (pv 4) (pe_ix (r := rIxT K) ix_tup (pv 2) pe_int (fun _ _ => rfl)) (nomark _)) (pw_and1 (pt_cmpR op_eq (pe_ix (r := rIxT K) ix_tup (pv 2) pe_int (fun _ _ => rfl)) pe_str (nomark _)))))
      (pss_one (ps_set (i := 3) sc_lspoiled.nd rfl (Or.inl rfl) (pe_op op_add_str (pv 3) (pe_ix (r := rIxT K) ix_tup (pv 2) pe_int (fun _ _ => rfl))))) pss_nil)
      (pss_one (ps_if (PW.pt (pw_and (pt_cmpR op_lt (pv 4) (pe_callB call_len_str (by rfl) T.z_len PySem.boot_len (pa_cons (pv 0) pa_nil)) (nomark _)) (pw_and (pt_cmpR op_eq (pv 4) (pe_ix (r := rIxT K) ix_tup (pv 2) pe_int (fun _ _ => rfl)) (nomark _)) (pw_and1 (pt_cmpR op_eq (pe_ix (r := rIxT K) ix_tup (pv 2) pe_int (fun _ _ => rfl)) pe_str (nomark _))))))
      (pss_one (ps_set (i := 3) sc_lspoiled.nd rfl (Or.inl rfl) (pe_op op_add_str (pv 3) (pe_ix ix_str pe_str (pe_callTy call_int_str (by rfl) T.z_int (by decide +kernel) (pa_cons (pe_ix ix_str (pv 0) (pv 4) (fun _ _ => rfl)) pa_nil)) (fun _ _ => rfl))))) (pss_one (ps_if (PW.pt (pw_and (pt_cmpR op_lt (pv 4) (pe_callB call_len_str (by rfl) T.z_len PySem.boot_len (pa_cons (pv 0) pa_nil)) (nomark _)) (pw_and1 (PW.pt (pw_or (pt_cmpR op_ne (pv 4) (pe_ix (r := rIxT K) ix_tup (pv 2) pe_int (fun _ _ => rfl)) (nomark _)) (pw_or1 (pt_cmpR op_eq (pe_ix (r := rIxT K) ix_tup (pv 2) pe_int (fun _ _ => rfl)) pe_str (nomark _))))))))
      (pss_one (ps_set (i := 3) sc_lspoiled.nd rfl (Or.inl rfl) (pe_op op_add_str (pv 3) (pe_ix ix_str (pv 0) (pv 4) (fun _ _ => rfl))))) pss_nil))))))
      (pss_one (ps_set (i := 0) sc_lspoiled.nd rfl (Or.inl rfl) (pv 3))))))
      (pss_one (ps_ret (pv 0)))), ?_⟩
    refine ⟨_, rfl, a, rfl, ⟨_, ha⟩, for_list (K := K) (a := a) (xs := ws) (fun i σ H' => ∃ y2 y3 y4 : Option V, σ = [some (.str (sOf (spoilL l (sps.take i)))), some (.ref a), y2, y3, y4] ∧ H' = H) ⟨none, none, none, rfl, rfl⟩ (fun i σ H' _ ⟨_, _, _, _, e⟩ => by rw [e]; exact ha) ?_ ?_⟩
    · rintro k x σ H1 hx ⟨y2, y3, y4, rfl, rfl⟩
      obtain ⟨sp, c, hsp, rfl, hc⟩ := hs.get hx
      have hc := SqT.of (K := K) hc
      have l5 := spoil_len (sps.take k) l
      rw [List.length_take] at l5
      have b5 : Bts (spoilL l (sps.take k)) := spoil_bts bl fun x hx => bs x (List.mem_of_mem_take hx)
      have sm := spoil_more l hsp
      generalize spoilL l (sps.take k) = m at l5 b5 sm
      have l6 : m.length ≤ 90000 := by omega
      have hm : (sOf m).length ≤ sizeLine := by
        rw [sOf_len]
        exact sz (by omega)
      have wl := walk_len sp m
      refine ⟨_, rfl, _, rfl, hm, _, _, rfl, rfl, _, rfl, ?_⟩
      rw [sOf_len]
      refine ⟨by omega, by omega, ?_⟩
      rw [show ((m.length : Int) + 1).toNat = m.length + 1 by omega]
      refine for_range (lo := 0) (n := m.length + 1) (fun i σ H' => ∃ (f : List Nat) (y4 : Option V), σ = [some (.str (sOf m)), some (.ref a), some (.ref c), some (.str (sOf f)), y4] ∧ H' = H1 ∧ f ++ (if i ≤ m.length then walkS sp (m.drop i) i else []) = walkS sp m 0) ⟨[], _, rfl, rfl, by rw [if_pos (Nat.zero_le _)]; rfl⟩ ?_ ?_
      · rintro i σ H2 hi ⟨f, y4, rfl, rfl, hf⟩
        have hi' : i ≤ m.length := by omega
        rw [if_pos hi', walk_step hi'] at hf
        have fl : f.length + (stepA sp i).length + (if i < m.length then stepB sp i ((m[i]?).getD 0) else []).length ≤ 90001 := by
          have := congrArg List.length hf
          rw [List.length_append, List.length_append, List.length_append] at this
          omega
        have szA : ∀ (x y : List Nat), x.length + y.length ≤ 90001 → (sOf x).length + (sOf y).length ≤ sizeLine := fun x y h => by
          rw [sOf_len, sOf_len]
          exact sz (by omega)
        refine ⟨fun σ H' => σ = [some (.str (sOf m)), some (.ref a), some (.ref c), some (.str (sOf (f ++ stepA sp i))), some (.int (0 + (i : Int)))] ∧ H' = H2, ?_, ?_⟩
        · cases sp with
          | put n d =>
            refine ⟨_, rfl, _, rfl, _, _, _, _, rfl, rfl, hc, atI_nat (j := 1) rfl, rfl, _, rfl, ?_⟩
            have fl : f.length + (if i = n then [d] else []).length + _ ≤ 90001 := fl
            show if _ then _ else _
            by_cases e : i = n
            · refine iteD1 (vint.mpr (by omega)) ?_
              refine ⟨_, rfl, _, _, _, _, rfl, rfl, hc, atI_nat (j := 0) rfl, rfl, _, rfl, iteD1 rfl ?_⟩
              rw [if_pos e] at fl
              refine ⟨_, rfl, _, rfl, _, _, _, _, rfl, rfl, hc, atI_nat (j := 2) rfl, _, _, rfl, rfl, szA _ _ (by show f.length + 1 ≤ _; have : [d].length = 1 := rfl; omega), ?_⟩
              refine ⟨?_, rfl⟩
              rw [sOf_app, show stepA (.put n d) i = [d] from if_pos e]
              rfl
            · refine iteD0 (fun z => e (by have := vint.mp z; omega)) ?_
              refine iteF ?_
              refine ⟨?_, rfl⟩
              rw [show stepA (.put n d) i = [] from if_neg e, List.append_nil]
              rfl
          | turn n =>
            refine ⟨_, rfl, _, rfl, _, _, _, _, rfl, rfl, hc, atI_nat (j := 1) rfl, rfl, _, rfl, ?_⟩
            refine ite2 (fun e => ?_) (fun e => ?_)
            · refine ⟨_, rfl, _, _, _, _, rfl, rfl, hc, atI_nat (j := 0) rfl, rfl, _, rfl, iteD0 (ne_word (by decide)) ?_⟩
              refine ⟨?_, rfl⟩
              rw [show stepA (.turn n) i = [] from rfl, List.append_nil]
              rfl
            · refine iteF ⟨?_, rfl⟩
              rw [show stepA (.turn n) i = [] from rfl, List.append_nil]
              rfl
          | lose n =>
            refine ⟨_, rfl, _, rfl, _, _, _, _, rfl, rfl, hc, atI_nat (j := 1) rfl, rfl, _, rfl, ?_⟩
            refine ite2 (fun e => ?_) (fun e => ?_)
            · refine ⟨_, rfl, _, _, _, _, rfl, rfl, hc, atI_nat (j := 0) rfl, rfl, _, rfl, iteD0 (ne_word (by decide)) ?_⟩
              refine ⟨?_, rfl⟩
              rw [show stepA (.lose n) i = [] from rfl, List.append_nil]
              rfl
            · refine iteF ⟨?_, rfl⟩
              rw [show stepA (.lose n) i = [] from rfl, List.append_nil]
              rfl
        · rintro σ H3 ⟨rfl, rfl⟩
          generalize hg : f ++ stepA sp i = g at hf
          rw [← List.append_assoc, hg] at hf
          have gl : g.length + (if i < m.length then stepB sp i ((m[i]?).getD 0) else []).length ≤ 90001 := by
            rw [← hg, List.length_append]
            exact fl
          -- what is left to be shown
          have fin : ∀ (h : List Nat), h = g ++ (if i < m.length then stepB sp i ((m[i]?).getD 0) else []) → ∃ (f : List Nat) (y4 : Option V), [some (V.str (sOf m)), some (.ref a), some (.ref c), some (.str (sOf h)), some (.int (0 + (i : Int)))] = [some (.str (sOf m)), some (.ref a), some (.ref c), some (.str (sOf f)), y4] ∧ H3 = H3 ∧ f ++ (if i + 1 ≤ m.length then walkS sp (m.drop (i + 1)) (i + 1) else []) = walkS sp m 0 := fun h e => ⟨h, _, rfl, rfl, by rw [e, List.append_assoc]; exact hf⟩
          by_cases h : i < m.length
          · have e1 : m[i]? = some m[i] := List.getElem?_eq_getElem h
            have at1 : atI (sOf m).cps.toList (0 + (i : Int)) = some m[i] := by
              rw [Int.zero_add]
              exact sOf_at e1
            have lt : (0 + (i : Int)) < ((sOf m).length : Int) := by
              rw [sOf_len]
              omega
            rw [if_pos h, e1] at gl fin
            have one : [m[i]].length = 1 := rfl
            cases sp with
            | put n d =>
              have gl : g.length + 1 ≤ 90001 := gl
              have T2 : ∀ (Z : Prop), Z → if decide ((0 + (i : Int)) < ((sOf m).length : Int)) = true then Z else Z := fun Z z => iteD1 lt z
              refine ⟨_, rfl, _, rfl, _, rfl, hm, _, _, rfl, rfl, _, rfl, iteD1 lt ?_⟩
              refine ⟨_, rfl, _, rfl, _, _, _, _, rfl, rfl, hc, atI_nat (j := 1) rfl, rfl, _, rfl, ?_⟩
              by_cases e : i = n
              · refine iteD1 (vint.mpr (by omega)) ?_
                refine ⟨_, rfl, _, _, _, _, rfl, rfl, hc, atI_nat (j := 0) rfl, rfl, _, rfl, iteD0 (ne_word (by decide)) ?_⟩
                refine ⟨_, rfl, _, rfl, _, rfl, hm, _, _, rfl, rfl, _, rfl, iteD1 lt ?_⟩
                refine ⟨_, rfl, _, rfl, _, _, _, _, rfl, rfl, hc, atI_nat (j := 1) rfl, rfl, _, rfl, iteN0 (vint.mpr (by omega)) ?_⟩
                refine ⟨_, rfl, _, _, _, _, rfl, rfl, hc, atI_nat (j := 0) rfl, rfl, _, rfl, iteD1 rfl ?_⟩
                refine ⟨_, rfl, _, rfl, _, rfl, _, _, _, rfl, rfl, hm, at1, _, _, rfl, rfl, szA _ [m[i]] (by omega), ?_⟩
                have := fin (g ++ [m[i]]) rfl
                rw [← sOf_app] at this
                exact this
              · refine iteD0 (fun z => e (by have := vint.mp z; omega)) (iteF ?_)
                refine ⟨_, rfl, _, rfl, _, rfl, hm, _, _, rfl, rfl, _, rfl, iteD1 lt ?_⟩
                refine ⟨_, rfl, _, rfl, _, _, _, _, rfl, rfl, hc, atI_nat (j := 1) rfl, rfl, _, rfl, iteN1 (fun z => e (by have := vint.mp z; omega)) (iteT ?_)⟩
                refine ⟨_, rfl, _, rfl, _, rfl, _, _, _, rfl, rfl, hm, at1, _, _, rfl, rfl, szA _ [m[i]] (by omega), ?_⟩
                have := fin (g ++ [m[i]]) rfl
                rw [← sOf_app] at this
                exact this
            | turn n =>
              refine ⟨_, rfl, _, rfl, _, rfl, hm, _, _, rfl, rfl, _, rfl, iteD1 lt ?_⟩
              refine ⟨_, rfl, _, rfl, _, _, _, _, rfl, rfl, hc, atI_nat (j := 1) rfl, rfl, _, rfl, ?_⟩
              by_cases e : i = n
              · have gl : g.length + 1 ≤ 90001 := by
                  have : (if i = n then [flipB m[i]] else [m[i]]).length = 1 := by rw [if_pos e]; rfl
                  have gl : g.length + (if i = n then [flipB m[i]] else [m[i]]).length ≤ 90001 := gl
                  omega
                have fin := fin (g ++ [flipB m[i]]) (by show _ = g ++ (if i = n then [flipB m[i]] else [m[i]]); rw [if_pos e])
                rw [← sOf_app] at fin
                refine iteD1 (vint.mpr (by omega)) ?_
                refine ⟨_, rfl, _, _, _, _, rfl, rfl, hc, atI_nat (j := 0) rfl, rfl, _, rfl, iteD1 rfl ?_⟩
                have bm := b5.at e1
                have fl10 : atI (Str.ofString "10").cps.toList ((m[i] : Int) - 48) = some (flipB m[i]) := by
                  rcases bm with z | z <;> rw [z] <;> rfl
                refine ⟨_, rfl, _, rfl, _, rfl, _, _, _, rfl, rfl, hm, at1, _, _, rfl, lit_one _ bm, (by show 1 ≤ 640; decide), _, _, _, rfl, rfl, (by decide), fl10, _, _, rfl, rfl, szA _ [flipB m[i]] (by show g.length + 1 ≤ _; omega), ?_⟩
                exact fin
              · have gl : g.length + 1 ≤ 90001 := by
                  have : (if i = n then [flipB m[i]] else [m[i]]).length = 1 := by rw [if_neg e]; rfl
                  have gl : g.length + (if i = n then [flipB m[i]] else [m[i]]).length ≤ 90001 := gl
                  omega
                have fin := fin (g ++ [m[i]]) (by show _ = g ++ (if i = n then [flipB m[i]] else [m[i]]); rw [if_neg e])
                rw [← sOf_app] at fin
                refine iteD0 (fun z => e (by have := vint.mp z; omega)) (iteF ?_)
                refine ⟨_, rfl, _, rfl, _, rfl, hm, _, _, rfl, rfl, _, rfl, iteD1 lt ?_⟩
                refine ⟨_, rfl, _, rfl, _, _, _, _, rfl, rfl, hc, atI_nat (j := 1) rfl, rfl, _, rfl, iteN1 (fun z => e (by have := vint.mp z; omega)) (iteT ?_)⟩
                refine ⟨_, rfl, _, rfl, _, rfl, _, _, _, rfl, rfl, hm, at1, _, _, rfl, rfl, szA _ [m[i]] (by omega), ?_⟩
                exact fin
            | lose n =>
              refine ⟨_, rfl, _, rfl, _, rfl, hm, _, _, rfl, rfl, _, rfl, iteD1 lt ?_⟩
              refine ⟨_, rfl, _, rfl, _, _, _, _, rfl, rfl, hc, atI_nat (j := 1) rfl, rfl, _, rfl, ?_⟩
              by_cases e : i = n
              · have fin := fin g (by show _ = g ++ (if i = n then [] else [m[i]]); rw [if_pos e, List.append_nil])
                refine iteD1 (vint.mpr (by omega)) ?_
                refine ⟨_, rfl, _, _, _, _, rfl, rfl, hc, atI_nat (j := 0) rfl, rfl, _, rfl, iteD0 (ne_word (by decide)) ?_⟩
                refine ⟨_, rfl, _, rfl, _, rfl, hm, _, _, rfl, rfl, _, rfl, iteD1 lt ?_⟩
                refine ⟨_, rfl, _, rfl, _, _, _, _, rfl, rfl, hc, atI_nat (j := 1) rfl, rfl, _, rfl, iteN0 (vint.mpr (by omega)) ?_⟩
                refine ⟨_, rfl, _, _, _, _, rfl, rfl, hc, atI_nat (j := 0) rfl, rfl, _, rfl, iteD0 (ne_word (by decide)) ?_⟩
                exact fin
              · have gl : g.length + 1 ≤ 90001 := by
                  have : (if i = n then [] else [m[i]]).length = 1 := by rw [if_neg e]; rfl
                  have gl : g.length + (if i = n then [] else [m[i]]).length ≤ 90001 := gl
                  omega
                have fin := fin (g ++ [m[i]]) (by show _ = g ++ (if i = n then [] else [m[i]]); rw [if_neg e])
                rw [← sOf_app] at fin
                refine iteD0 (fun z => e (by have := vint.mp z; omega)) (iteF ?_)
                refine ⟨_, rfl, _, rfl, _, rfl, hm, _, _, rfl, rfl, _, rfl, iteD1 lt ?_⟩
                refine ⟨_, rfl, _, rfl, _, _, _, _, rfl, rfl, hc, atI_nat (j := 1) rfl, rfl, _, rfl, iteN1 (fun z => e (by have := vint.mp z; omega)) (iteT ?_)⟩
                refine ⟨_, rfl, _, rfl, _, rfl, _, _, _, rfl, rfl, hm, at1, _, _, rfl, rfl, szA _ [m[i]] (by omega), ?_⟩
                exact fin
          · have lt : ¬ (0 + (i : Int)) < ((sOf m).length : Int) := by
              rw [sOf_len]
              omega
            refine ⟨_, rfl, _, rfl, _, rfl, hm, _, _, rfl, rfl, _, rfl, iteD0 lt (iteF ?_)⟩
            refine ⟨_, rfl, _, rfl, _, rfl, hm, _, _, rfl, rfl, _, rfl, iteD0 lt (iteF ?_)⟩
            exact fin g (by rw [if_neg h, List.append_nil])
      · rintro σ H2 ⟨f, y4, rfl, rfl, hf⟩
        rw [if_neg (by omega), List.append_nil, walk_is, ← sm] at hf
        rw [hf]
        exact ⟨_, rfl, _, _, _, rfl, rfl⟩
    · rintro σ H1 ⟨y2, y3, y4, rfl, rfl⟩
      rw [hs.len, List.take_length]
      exact ⟨_, rfl, q⟩

/-! ### the law -/
def spD : Spl → PyData
  | .turn n => .tuple [.str (Str.ofString "turn"), .int (n : Int)]
  | .lose n => .tuple [.str (Str.ofString "lose"), .int (n : Int)]
  | .put n b => .tuple [.str (Str.ofString "put"), .int (n : Int), .str (sOf [b])]
theorem dp_sps {H : Hp} : ∀ {ws : List V} {sps : List Spl}, SpsAt H ws sps → DpAll K H ws (sps.map spD)
  | [], [], _ => .nil
  | x :: ws, sp :: sps, h => by
    obtain ⟨⟨a, rfl, ha⟩, h2⟩ := h
    refine .cons ?_ (dp_sps h2)
    cases sp with
    | turn n => exact .tup (SqT.of ha) (.cons (.str _) (.cons (.int _) .nil))
    | lose n => exact .tup (SqT.of ha) (.cons (.str _) (.cons (.int _) .nil))
    | put n b => exact .tup (SqT.of ha) (.cons (.str _) (.cons (.int _) (.cons (.str _) .nil)))
  | [], _ :: _, h => h.elim
  | _ :: _, [], h => h.elim
theorem bit_codes {b : Nat} (h : b = 48 ∨ b = 49) : Codes [b] := fun c hc => by
  rw [List.mem_singleton.mp hc]
  rcases h with z | z <;> rw [z] <;> decide
theorem lay_sps : ∀ {sps : List Spl}, (∀ sp ∈ sps, BitS sp) → PyData.canLayAll0 (sps.map spD) = true
  | [], _ => by simp [PyData.canLayAll0]
  | sp :: r, h => by
    have h1 := lay_sps (sps := r) fun x hx => h x (List.mem_cons_of_mem _ hx)
    have h0 := h sp (List.mem_cons_self ..)
    have h2 : PyData.canLay0 (spD sp) = true := by
      cases sp with
      | turn n =>
        show PyData.canLay0 (.tuple [.str (Str.ofString "turn"), .int (n : Int)]) = true
        have : PyData.strOk (Str.ofString "turn") = true := by decide +kernel
        simp only [PyData.canLay0, PyData.canLayAll0, this, Bool.and_true]
      | lose n =>
        show PyData.canLay0 (.tuple [.str (Str.ofString "lose"), .int (n : Int)]) = true
        have : PyData.strOk (Str.ofString "lose") = true := by decide +kernel
        simp only [PyData.canLay0, PyData.canLayAll0, this, Bool.and_true]
      | put n b =>
        show PyData.canLay0 (.tuple [.str (Str.ofString "put"), .int (n : Int), .str (sOf [b])]) = true
        have t1 : PyData.strOk (Str.ofString "put") = true := by decide +kernel
        have t2 := strOk_of (bit_codes h0)
        simp only [PyData.canLay0, PyData.canLayAll0, t1, t2, Bool.and_true]
    simp only [List.map_cons, PyData.canLayAll0, h1, h2, Bool.and_true]
theorem depth_sps : ∀ sps : List Spl, PyData.depthAll (sps.map spD) ≤ 1
  | [] => by simp [PyData.depthAll]
  | sp :: r => by
    have h := depth_sps r
    have h2 : PyData.depth (spD sp) ≤ 1 := by
      cases sp <;> simp [spD, PyData.depth, PyData.depthAll]
    simp only [List.map_cons, PyData.depthAll]
    omega
theorem shaped_sps {sps : List Spl} (h : ∀ sp ∈ sps, BitS sp) : SeqAt.shaped (.list (sps.map spD)) = true := by
  show (PyData.canLay0 (.list (sps.map spD)) && decide (PyData.depth (.list (sps.map spD)) ≤ 64)) = true
  rw [Bool.and_eq_true]
  refine ⟨by simp only [PyData.canLay0]; exact lay_sps h, decide_eq_true ?_⟩
  have := depth_sps sps
  simp only [PyData.depth]
  omega
theorem eqv_sps {sps : List Spl} (h : ∀ sp ∈ sps, BitS sp) : PyData.eqv (.list (sps.map spD)) (.list (sps.map spD)) = true := SeqAt.eqv_refl _ (by simp only [PyData.canLay0]; exact lay_sps h)
def SpL (H : Hp) (x : V) : Prop := ∃ a ws sps, x = .ref a ∧ H a = some (.lst ws) ∧ SpsAt H ws sps ∧ sps.length ≤ 100 ∧ ∀ sp ∈ sps, BitS sp
theorem SpL.same {H H' : Hp} {x : V} (h : SpL H x) (s : Same H H') : SpL H' x := by
  obtain ⟨a, ws, sps, rfl, h1, h2, h3, h4⟩ := h
  exact ⟨a, ws, sps, rfl, s _ _ h1, h2.mono fun a xs z => s _ _ z, h3, h4⟩
def spLaw (K : PySem.W.Frag) : Sp := fun vs H Q _ => ∃ (a : Addr) (ns : List Int), vs = [.ref a] ∧ SqL K H a (ns.map V.int) ∧ ns.length ≤ 63 ∧ ∀ H', Q (.bl true) H'
theorem ok_law {A : Ad} (T : Txt w K mg base A) : FnOk P w K mg base CX0 4 A.a_law A.d_law P_law (spLaw K) := by
  have G_bag := ok_bag (P := P) (w := w) (base := base) T
  have G_spoils := ok_spoils (P := P) (w := w) (base := base) T
  have G_spoiled := ok_spoiled (P := P) (w := w) (base := base) T
  have G_draw := ok_draw (P := P) (w := w) (base := base) T
  have G_lspoiled := ok_lspoiled (P := P) (w := w) (base := base) T
  refine T.F_law.ok sc_law (fun vs H Q E h => ?_) (fun cdv Ar outer s H vs Q E hr h => ?_)
  · obtain ⟨a, ns, rfl, _⟩ := h
    rfl
  · obtain ⟨a, ns, rfl, hS, ln, q⟩ := h
    refine ⟨_, (pss_cons (ps_for PassesOwn.never rfl (pi_range1 (by rfl) T.z_range (pa_cons (pe_callB (call_max2 rfl) (by rfl) T.z_max (by decide +kernel) (pa_cons pe_int (pa_cons (pe_callB (call_min2 rfl) (by rfl) T.z_min (by decide +kernel) (pa_cons pe_int (pa_cons (pe_callB (r := fun xs H Q => ∃ p ys, xs = [.ref p] ∧ (SqL K H p ys ∨ SqT K H p ys) ∧ Q (.int ys.length) H) call_len_seq (by rfl) T.z_len PySem.boot_len (pa_cons (pv 0) pa_nil)) pa_nil))) pa_nil))) pa_nil)) (pg_name (i := 1) sc_law.nd rfl (Or.inl rfl))
      (pss_cons (ps_set (i := 2) sc_law.nd rfl (by first | exact Or.inl rfl | exact Or.inr rfl) (pe_call G_bag (hr.mono (by decide)) (by rfl) T.g_bag T.F_bag.kp T.b_bag .nil pass0 (pa_cons (pv 0) (pa_cons (pv 1) pa_nil))))
      (pss_cons (ps_set (i := 3) sc_law.nd rfl (Or.inl rfl) (pe_join pe_str (pe_lc (own := [("_law_turn", 7)]) (g := gName 7) (tt := tYes) (by rfl) sc_law.nd (pi_range1 (by rfl) T.z_range (pa_cons (pe_call G_draw (hr.mono (by decide)) (by rfl) T.g_draw T.F_draw.kp T.b_draw .nil pass0 (pa_cons (pv 2) (pa_cons pe_int pa_nil))) pa_nil)) (blkOk_by (own := [("_law_turn", 7)]) (N := N_law) (sc := defScope s_law) (by decide +kernel)) (fun _ _ _ _ _ => pg_name (i := 7) sc_law.nd rfl (Or.inl rfl)) (fun _ _ _ _ _ => pts_nil) (fun _ _ _ _ _ => (pe_ix ix_str pe_str (pe_call G_draw (hr.mono (by decide)) (by rfl) T.g_draw T.F_draw.kp T.b_draw .nil pass0 (pa_cons (pv 2) (pa_cons pe_int pa_nil))) (fun _ _ => rfl))))))
      (pss_cons (ps_set (i := 4) sc_law.nd rfl (Or.inl rfl) (pe_call G_spoils (hr.mono (by decide)) (by rfl) T.g_spoils T.F_spoils.kp T.b_spoils .nil pass0 (pa_cons (pv 2) (pa_cons (pe_ix (r := rIxL K) ix_list (pe_lstW (pa_cons (pe_call G_draw (hr.mono (by decide)) (by rfl) T.g_draw T.F_draw.kp T.b_draw .nil pass0 (pa_cons (pv 2) (pa_cons pe_int pa_nil))) (pa_cons (pe_call G_draw (hr.mono (by decide)) (by rfl) T.g_draw T.F_draw.kp T.b_draw .nil pass0 (pa_cons (pv 2) (pa_cons pe_int pa_nil))) (pa_cons pe_int pa_nil)))) (pe_call G_draw (hr.mono (by decide)) (by rfl) T.g_draw T.F_draw.kp T.b_draw .nil pass0 (pa_cons (pv 2) (pa_cons pe_int pa_nil))) (fun _ _ => rfl)) (pa_cons (pe_op op_add (pe_callB call_len_str (by rfl) T.z_len PySem.boot_len (pa_cons (pv 3) pa_nil)) pe_int) pa_nil)))))
      (pss_one (ps_for PassesOwn.never rfl (pi_list (pe_lstW (pa_cons (pv 4) (pa_cons (pe_slice sl_list (pv 4) po_none (po_some pe_int)) (pa_cons (pe_op op_catLW (pv 4) (pe_slice sl_list (pe_lstW (pa_cons (pe_tupW (pa_cons pe_str (pa_cons pe_int pa_nil))) pa_nil)) (po_some (pe_op op_fdiv (pe_callB (r := fun xs H Q => ∃ p ys, xs = [.ref p] ∧ (SqL K H p ys ∨ SqT K H p ys) ∧ Q (.int ys.length) H) call_len_seq (by rfl) T.z_len PySem.boot_len (pa_cons (pv 4) pa_nil)) pe_int)) po_none)) (pa_cons (pe_lstW (pa_cons (pe_tupW (pa_cons pe_str (pa_cons (pe_callB call_len_str (by rfl) T.z_len PySem.boot_len (pa_cons (pv 3) pa_nil)) (pa_cons pe_str pa_nil)))) pa_nil)) (pa_cons (pe_lstW pa_nil) pa_nil))))))) (pg_name (i := 5) sc_law.nd rfl (Or.inl rfl))
      (pss_cons (ps_set (i := 6) sc_law.nd rfl (Or.inl rfl) (pe_callTy call_list_ofW (by rfl) T.z_list (by decide +kernel) (pa_cons (pv 5) pa_nil)))
      (pss_one (ps_if (PW.pt (pw_or (pt_cmpR op_ne (pe_call G_spoiled (hr.mono (by decide)) (by rfl) T.g_spoiled T.F_spoiled.kp T.b_spoiled .nil pass0 (pa_cons (pv 3) (pa_cons (pv 6) pa_nil))) (pe_call G_lspoiled (hr.mono (by decide)) (by rfl) T.g_lspoiled T.F_lspoiled.kp T.b_lspoiled .nil pass0 (pa_cons (pv 3) (pa_cons (pv 5) pa_nil))) (nomark _)) (pw_or1 (pt_cmpR (op_neD hr.units) (pv 6) (pv 5) (nomark _)))))
      (pss_one (ps_ret pe_bl)) pss_nil)))))))))
      (pss_one (ps_ret (pe_cmpR op_eq (pe_call G_spoiled (hr.mono (by decide)) (by rfl) T.g_spoiled T.F_spoiled.kp T.b_spoiled .nil pass0 (pa_cons pe_str (pa_cons (pe_lstW (pa_cons (pe_tupW (pa_cons pe_str (pa_cons pe_int pa_nil))) (pa_cons (pe_tupW (pa_cons pe_str (pa_cons pe_int (pa_cons pe_str pa_nil)))) (pa_cons (pe_tupW (pa_cons pe_str (pa_cons pe_int pa_nil))) pa_nil)))) pa_nil))) pe_str (nomark _))))), ?_⟩
    refine ⟨_, rfl, _, _, rfl, .inl hS, _, _, rfl, _, _, rfl, _, rfl, ?_, ?_, for_range (fun i σ H' => ∃ y1 y2 y3 y4 y5 y6 y7, σ = [some (.ref a), y1, y2, y3, y4, y5, y6, y7] ∧ Same H H') ⟨none, none, none, none, none, none, none, rfl, Same.refl H⟩ ?_ ?_⟩
    · rw [List.length_map]
      split <;> split <;> omega
    · rw [List.length_map]
      split <;> split <;> omega
    · rintro i σ H1 hi ⟨y1, y2, y3, y4, y5, y6, y7, rfl, sm⟩
      have hi8 : i < 8 := by
        rw [List.length_map] at hi
        revert hi
        split <;> split <;> omega
      refine ⟨_, rfl, _, rfl, a, ns, _, rfl, sm.seq hS, by omega, by omega, fun b g s hb g0 s0 s1 => ?_⟩
      have B0 : BagAt (upd H1 b (.lst [.int g, .int s])) b := BagAt.new g0 s0 s1
      generalize hH0 : upd H1 b (.lst [.int g, .int s]) = H0 at B0
      have sm0 : Same H1 H0 := by rw [← hH0]; exact same_new hb
      -- bits
      refine ⟨⟨_, rfl⟩, _, rfl, b, 121, rfl, B0, by decide, by decide, fun m H2 m0 m1 bx2 => ?_⟩
      obtain ⟨m, rfl⟩ := Int.eq_ofNat_of_zero_le m0
      refine ⟨_, rfl, by omega, by omega, fun D hD => ?_⟩
      have nD : D ≠ b := BagAt.ne bx2.1 hD
      refine lc_range (lo := 0) (n := m) (fun i H' => ∃ l, H' D = some (.lst (cells l)) ∧ l.length = i ∧ Bts l ∧ Bx b H0 H') ⟨[], upd_same, rfl, Bts.nil, bx2.same (same_new hD)⟩ ?_ ?_
      · rintro j H' hj ⟨l, hl, ll, bl, bx5⟩
        have fD : H0 D = none := bx2.free hD
        refine ⟨rfl, _, rfl, b, 2, rfl, bx5.1, by decide, by decide, fun d2 H5 e0 e1 bx6 => ⟨_, _, _, rfl, rfl, two_len', bit_at e0 e1, _, bx6.2 _ _ nD hl, ?_, l ++ [bitN d2], ?_, ?_, bl.app (Bts.one (bitN_bit d2)), (bx5.trans bx6).mut fD nD⟩⟩
        · rw [cells_len]
          exact szl (by omega)
        · rw [upd_same]
          exact congrArg (fun z => some (HO.lst z)) (cells_app l (bitN d2))
        · rw [List.length_append, ll]
          rfl
      rintro H3 ⟨l, hl, ll, bl, bx3⟩
      refine ⟨_, _, l.map fun c => sOf [c], rfl, rfl, .inl (SqL.of (by rw [← cells_strs]; exact hl)), join_size (by omega), ?_⟩
      rw [join_cells]
      have hlz : (sOf l).length ≤ sizeLine := by
        rw [sOf_len]
        exact sz (by omega)
      -- spoils
      refine ⟨_, rfl, _, rfl, b, 6, rfl, bx3.1, by decide, by decide, fun d1 H4 a0 a1 bx4 => ⟨_, rfl, b, 41, rfl, bx4.1, by decide, by decide, fun d2 H5 c0 c1 bx5 => ⟨by show 3 ≤ 100000; decide, fun p H6 np s6 hp => ⟨_, rfl, b, 3, rfl, (bx5.same s6).1, by decide, by decide, fun j H7 j0 j1 bx7 => ?_⟩⟩⟩⟩
      have npb : p ≠ b := BagAt.ne bx5.1 np
      obtain ⟨v, hv, v0, v1⟩ : ∃ v : Int, atI [V.int d1, .int d2, .int 40] j = some (.int v) ∧ 0 ≤ v ∧ v ≤ 40 := by
        have : j = 0 ∨ j = 1 ∨ j = 2 := by omega
        rcases this with rfl | rfl | rfl
        · exact ⟨d1, rfl, a0, by omega⟩
        · exact ⟨d2, rfl, c0, by omega⟩
        · exact ⟨40, rfl, by decide, by decide⟩
      have bx8 : Bx b H0 H7 := (((bx3.trans bx4).trans bx5).same s6).trans bx7
      refine ⟨_, _, _, _, rfl, rfl, SqL.of (bx7.2 _ _ npb hp), hv, _, rfl, _, rfl, hlz, _, _, rfl, rfl, b, v, _, rfl, bx8.1, v0, by omega, by rw [sOf_len]; omega, by rw [sOf_len]; omega, fun S ws sps H8 fS bx9 hSp hsp lsp gsp => ?_⟩
      have bxA := bx8.trans bx9
      have bsp : ∀ sp ∈ sps, BitS sp := fun sp h => (gsp sp h).2
      -- the five lists
      refine ⟨_, rfl, _, rfl, _, rfl, _, _, rfl, SqL.of hSp, fun p1 hp1 => ?_⟩
      have n1 : S ≠ p1 := ne_of_none hSp hp1
      have st1 := same_new (o := .lst (cutV ws none (some 1))) hp1
      generalize hG1 : upd H8 p1 (.lst (cutV ws none (some 1))) = G1 at st1
      have hp1' : G1 p1 = some (.lst (cutV ws none (some 1))) := by rw [← hG1, upd_same]
      refine ⟨_, rfl, by show 2 ≤ 100000; decide, fun t1 G2 nt1 st2 ht1 => ⟨by show 1 ≤ 100000; decide, fun p2 G3 np2 st3 hp2 => ?_⟩⟩
      have s13 : Same H8 G3 := (st1.trans st2).trans st3
      have lws := hsp.len
      refine ⟨_, rfl, S, _, rfl, .inl (SqL.of (s13 _ _ hSp)), _, _, rfl, rfl, ⟨by decide, by decide⟩, _, rfl, _, _, rfl, SqL.of hp2, fun p3 hp3 => ?_⟩
      have st4 := same_new (o := .lst (cutV [.ref t1] (some ((ws.length : Int) / 40)) none)) hp3
      generalize hG4 : upd G3 p3 (.lst (cutV [.ref t1] (some ((ws.length : Int) / 40)) none)) = G4 at st4
      have hp3' : G4 p3 = some (.lst (cutV [.ref t1] (some ((ws.length : Int) / 40)) none)) := by rw [← hG4, upd_same]
      have lc4 := cutV_len [.ref t1] (some ((ws.length : Int) / 40)) none
      have s14 : Same H8 G4 := s13.trans st4
      have lc5 : (cutV [.ref t1] (some ((ws.length : Int) / 40)) none).length ≤ 1 := lc4
      refine ⟨_, _, _, _, rfl, rfl, s14 _ _ hSp, hp3', Nat.le_trans (Nat.add_le_add_left lc5 _) (by rw [lws]; omega), fun p4 G5 np4 st5 hp4 => ?_⟩
      refine ⟨_, rfl, _, rfl, hlz, by show 3 ≤ 100000; decide, fun t2 G6 nt2 st6 ht2 => ⟨by show 1 ≤ 100000; decide, fun p5 G7 np5 st7 hp5 => ⟨by show 0 ≤ 100000; decide, fun p6 G8 np6 st8 hp6 => ⟨by show 5 ≤ 100000; decide, fun p7 G9 np7 st9 hp7 => ?_⟩⟩⟩⟩
      have s49 : Same G4 G9 := (((st5.trans st6).trans st7).trans st8).trans st9
      have s19 : Same H8 G9 := s14.trans s49
      have L1 : SpL G9 (.ref S) := ⟨S, ws, sps, rfl, s19 _ _ hSp, hsp.mono fun a xs z => s19 _ _ z, by omega, bsp⟩
      have cut1w : cutV ws none (some 1) = ws.take 1 := by
        unfold cutV
        rw [show HT.sIx ws.length ws.length (some 1) = min 1 ws.length from HT.sIx_nat ws.length ws.length 1, HT.sIx_none]
        show (ws.drop 0).take (min 1 ws.length - 0) = _
        rw [List.drop_zero, Nat.sub_zero]
        cases ws with
        | nil => rfl
        | cons x r => rw [show min 1 (x :: r).length = 1 by rw [List.length_cons]; omega]
      have L2 : SpL G9 (.ref p1) := ⟨p1, ws.take 1, sps.take 1, rfl, by rw [← cut1w]; exact (((st2.trans st3).trans st4).trans s49) _ _ hp1', (hsp.take 1).mono fun a xs z => s19 _ _ z, by rw [List.length_take]; omega, fun sp h => bsp sp (List.mem_of_mem_take h)⟩
      have ht1' : G9 t1 = some (.tup (spV (.turn 12000))) := ((st3.trans st4).trans s49) _ _ ht1
      have L3 : SpL G9 (.ref p4) := by
        have h4 := (((st6.trans st7).trans st8).trans st9) _ _ hp4
        have hw : cutV [.ref t1] (some ((ws.length : Int) / 40)) none = [.ref t1] ∨ cutV [.ref t1] (some ((ws.length : Int) / 40)) none = [] := by
          unfold cutV
          generalize HT.sIx [V.ref t1].length 0 _ = u
          rw [HT.sIx_none]
          cases u with
          | zero => exact .inl rfl
          | succ u => exact .inr (by rw [List.drop_succ_cons, List.drop_nil, List.take_nil])
        have hS9 := hsp.mono (H' := G9) fun a xs z => s19 _ _ z
        rcases hw with e | e
        · rw [e] at h4
          refine ⟨p4, ws ++ [.ref t1], sps ++ [.turn 12000], rfl, h4, SpsAt.app (ws := [.ref t1]) (tps := [.turn 12000]) (And.intro ⟨t1, rfl, ht1'⟩ trivial) hS9, by rw [List.length_append]; show sps.length + 1 ≤ 100; omega, fun sp h => ?_⟩
          rcases List.mem_append.mp h with h | h
          · exact bsp sp h
          · rw [List.mem_singleton.mp h]
            exact trivial
        · rw [e, List.append_nil] at h4
          exact ⟨p4, ws, sps, rfl, h4, hS9, by omega, bsp⟩
      have L4 : SpL G9 (.ref p5) := ⟨p5, [.ref t2], [.put l.length 49], rfl, (st8.trans st9) _ _ hp5, And.intro ⟨t2, rfl, by have := ((st7.trans st8).trans st9) _ _ ht2; rw [sOf_len] at this; exact this⟩ trivial, by show 1 ≤ 100; decide, fun sp h => by rw [List.mem_singleton.mp h]; exact .inr rfl⟩
      have L5 : SpL G9 (.ref p6) := ⟨p6, [], [], rfl, st9 _ _ hp6, trivial, by show 0 ≤ 100; decide, fun _ h => nomatch h⟩
      refine ⟨p7, rfl, ⟨_, SqL.of hp7⟩, for_list (K := K) (a := p7) (xs := _) (fun i σ H' => ∃ y5 y6, σ = [some (.ref a), _, some (.ref b), some (.str (sOf l)), some (.ref S), y5, y6, y7] ∧ Same G9 H') ⟨y5, y6, rfl, Same.refl _⟩ (fun i σ H' _ ⟨_, _, _, s2⟩ => SqL.of (s2 _ _ hp7)) ?_ ?_⟩
      · rintro k x σ I1 hx ⟨y5, y6, rfl, sI⟩
        have hL : SpL G9 x := by
          rcases List.mem_cons.mp (List.mem_of_getElem? hx) with rfl | hm
          · exact L1
          rcases List.mem_cons.mp hm with rfl | hm
          · exact L2
          rcases List.mem_cons.mp hm with rfl | hm
          · exact L3
          rcases List.mem_cons.mp hm with rfl | hm
          · exact L4
          rcases List.mem_cons.mp hm with rfl | hm
          · exact L5
          · cases hm
        obtain ⟨xa, xw, xs, rfl, hx1, hx2, hx3, hx4⟩ := hL.same sI
        refine ⟨_, rfl, xa, xw, rfl, .inl hx1, fun h7 I2 nh sI2 hh7 => ?_⟩
        have hx2' := hx2.mono (H' := I2) fun a xs z => sI2 _ _ z
        refine ⟨_, rfl, _, rfl, l, h7, xw, xs, rfl, SqL.of hh7, hx2', by omega, by omega, ?_⟩
        refine ⟨_, rfl, _, rfl, l, xa, xw, xs, rfl, SqL.of (sI2 _ _ hx1), hx2', bl, hx4, by omega, by omega, rfl, _, rfl, iteN0 rfl ?_⟩
        refine ⟨_, rfl, _, rfl, _, _, .lst (SqL.of hh7) (dp_sps hx2'), .lst (SqL.of (sI2 _ _ hx1)) (dp_sps hx2'), shaped_sps hx4, shaped_sps hx4, _, rfl, ?_⟩
        rw [eqv_sps hx4]
        exact ⟨_, _, rfl, sI.trans sI2⟩
      · rintro σ I1 ⟨y5, y6, rfl, sI⟩
        exact ⟨_, _, _, _, _, _, _, rfl, sm.trans (((bxA.same s19).back sm0 hb).trans sI)⟩
    · rintro σ H1 ⟨y1, y2, y3, y4, y5, y6, y7, rfl, sm⟩
      refine ⟨by show 2 ≤ 100000; decide, fun t1 G1 n1 st1 h1 => ⟨by show 3 ≤ 100000; decide, fun t2 G2 n2 st2 h2 => ⟨by show 2 ≤ 100000; decide, fun t3 G3 n3 st3 h3 => ⟨by show 3 ≤ 100000; decide, fun t4 G4 n4 st4 h4 => ?_⟩⟩⟩⟩
      refine ⟨[], t4, _, [.lose 0, .put 0 49, .turn 0], rfl, SqL.of h4, ⟨⟨t1, rfl, ((st2.trans st3).trans st4) _ _ h1⟩, ⟨t2, rfl, (st3.trans st4) _ _ h2⟩, ⟨t3, rfl, st4 _ _ h3⟩, trivial⟩, by decide, by decide, rfl, ?_⟩
      have e : decide (V.str (sOf (spoilL [] [.lose 0, .put 0 49, .turn 0])) = V.str (Str.ofString "0")) = true := decide_eq_true rfl
      show Q (.bl (decide _)) _
      rw [e]
      exact q _
end
theorem all_mk {l : PySem.W.OpenLaw} {w : World} {K : PySem.W.Frag} {h : Heap} {mg : Str → Option Value} {fa : Addr} (X : K.In h) (G : h.Ns mainGlobals mg) (hfa : mg "law" = some (.ref fa))
    {f0 f1 f2 f3 f4 f5 f6 f7 : Addr}
    {od0 an0 od1 an1 od2 an2 od3 an3 od4 an4 od5 an5 od6 an6 od7 an7 : Option Addr}
    {sl0 sl1 sl2 sl3 sl4 sl5 sl6 sl7 : Array (Option Value)}
    {oc0 kV0 dc0 pm0 ct0 cd0 oc1 kV1 dc1 pm1 ct1 cd1 oc2 kV2 dc2 pm2 ct2 cd2 oc3 kV3 dc3 pm3 ct3 cd3 oc4 kV4 dc4 pm4 ct4 cd4 oc5 kV5 dc5 pm5 ct5 cd5 oc6 kV6 dc6 pm6 ct6 cd6 oc7 kV7 dc7 pm7 ct7 cd7 : Value}
    (a0 : PySem.W.nsIn K mainGlobals "turned" = some (some (.ref f0))) (l0 : K.lookup f0 = some ⟨oc0, od0, .func (PySem.W.fnOf "turned" "turned" (defArgs s_turned) (defBody s_turned) (defScope s_turned) .none kV0 dc0 pm0 an0 cd0 ct0), sl0⟩) (c0 : PySem.W.codeIn K cd0 "turned" = true) (k0 : PySem.W.keepIn K (.ref f0) = true)
    (a1 : PySem.W.nsIn K mainGlobals "spoiled" = some (some (.ref f1))) (l1 : K.lookup f1 = some ⟨oc1, od1, .func (PySem.W.fnOf "spoiled" "spoiled" (defArgs s_spoiled) (defBody s_spoiled) (defScope s_spoiled) .none kV1 dc1 pm1 an1 cd1 ct1), sl1⟩) (c1 : PySem.W.codeIn K cd1 "spoiled" = true) (k1 : PySem.W.keepIn K (.ref f1) = true)
    (a2 : PySem.W.nsIn K mainGlobals "spoiled_once" = some (some (.ref f2))) (l2 : K.lookup f2 = some ⟨oc2, od2, .func (PySem.W.fnOf "spoiled_once" "spoiled_once" (defArgs s_spoiled_once) (defBody s_spoiled_once) (defScope s_spoiled_once) .none kV2 dc2 pm2 an2 cd2 ct2), sl2⟩) (c2 : PySem.W.codeIn K cd2 "spoiled_once" = true) (k2 : PySem.W.keepIn K (.ref f2) = true)
    (a3 : PySem.W.nsIn K mainGlobals "_law_bag" = some (some (.ref f3))) (l3 : K.lookup f3 = some ⟨oc3, od3, .func (PySem.W.fnOf "_law_bag" "_law_bag" (defArgs s_bag) (defBody s_bag) (defScope s_bag) .none kV3 dc3 pm3 an3 cd3 ct3), sl3⟩) (c3 : PySem.W.codeIn K cd3 "_law_bag" = true) (k3 : PySem.W.keepIn K (.ref f3) = true)
    (a4 : PySem.W.nsIn K mainGlobals "_law_draw" = some (some (.ref f4))) (l4 : K.lookup f4 = some ⟨oc4, od4, .func (PySem.W.fnOf "_law_draw" "_law_draw" (defArgs s_draw) (defBody s_draw) (defScope s_draw) .none kV4 dc4 pm4 an4 cd4 ct4), sl4⟩) (c4 : PySem.W.codeIn K cd4 "_law_draw" = true) (k4 : PySem.W.keepIn K (.ref f4) = true)
    (a5 : PySem.W.nsIn K mainGlobals "_law_spoils" = some (some (.ref f5))) (l5 : K.lookup f5 = some ⟨oc5, od5, .func (PySem.W.fnOf "_law_spoils" "_law_spoils" (defArgs s_spoils) (defBody s_spoils) (defScope s_spoils) .none kV5 dc5 pm5 an5 cd5 ct5), sl5⟩) (c5 : PySem.W.codeIn K cd5 "_law_spoils" = true) (k5 : PySem.W.keepIn K (.ref f5) = true)
    (a6 : PySem.W.nsIn K mainGlobals "_law_spoiled" = some (some (.ref f6))) (l6 : K.lookup f6 = some ⟨oc6, od6, .func (PySem.W.fnOf "_law_spoiled" "_law_spoiled" (defArgs s_lspoiled) (defBody s_lspoiled) (defScope s_lspoiled) .none kV6 dc6 pm6 an6 cd6 ct6), sl6⟩) (c6 : PySem.W.codeIn K cd6 "_law_spoiled" = true) (k6 : PySem.W.keepIn K (.ref f6) = true)
    (a7 : PySem.W.nsIn K mainGlobals "law" = some (some (.ref f7))) (l7 : K.lookup f7 = some ⟨oc7, od7, .func (PySem.W.fnOf "law" "law" (defArgs s_law) (defBody s_law) (defScope s_law) .none kV7 dc7 pm7 an7 cd7 ct7), sl7⟩) (c7 : PySem.W.codeIn K cd7 "law" = true) (k7 : PySem.W.keepIn K (.ref f7) = true)
    (z_abs : PySem.W.nsIn K mainGlobals "abs" = some none)
    (z_int : PySem.W.nsIn K mainGlobals "int" = some none)
    (z_len : PySem.W.nsIn K mainGlobals "len" = some none)
    (z_list : PySem.W.nsIn K mainGlobals "list" = some none)
    (z_max : PySem.W.nsIn K mainGlobals "max" = some none)
    (z_min : PySem.W.nsIn K mainGlobals "min" = some none)
    (z_range : PySem.W.nsIn K mainGlobals "range" = some none)
    : ∃ fd : FuncData, (∀ (s : Shared) (v : Value), BindsTo s fd ⟨[v], []⟩ [("_law_script", v)]) ∧ ∀ base : Heap, K.In base → base.Ns mainGlobals mg → FnOk l.prog w K mg base CX0 4 fa fd ["_law_script"] (spLaw K) := by
  have e := hfa.symm.trans (PySem.W.mg_of X G a7)
  cases e
  have F0 := fun_mk (st := s_turned) l0 c0 k0
  have b0 := F0.binds (ps := P_turned) fun _ _ _ _ _ _ us hl => match us, hl with | [_], _ => rfl
  have F1 := fun_mk (st := s_spoiled) l1 c1 k1
  have b1 := F1.binds (ps := P_spoiled) fun _ _ _ _ _ _ us hl => match us, hl with | [_, _], _ => rfl
  have F2 := fun_mk (st := s_spoiled_once) l2 c2 k2
  have b2 := F2.binds (ps := P_spoiled_once) fun _ _ _ _ _ _ us hl => match us, hl with | [_, _], _ => rfl
  have F3 := fun_mk (st := s_bag) l3 c3 k3
  have b3 := F3.binds (ps := P_bag) fun _ _ _ _ _ _ us hl => match us, hl with | [_, _], _ => rfl
  have F4 := fun_mk (st := s_draw) l4 c4 k4
  have b4 := F4.binds (ps := P_draw) fun _ _ _ _ _ _ us hl => match us, hl with | [_, _], _ => rfl
  have F5 := fun_mk (st := s_spoils) l5 c5 k5
  have b5 := F5.binds (ps := P_spoils) fun _ _ _ _ _ _ us hl => match us, hl with | [_, _, _], _ => rfl
  have F6 := fun_mk (st := s_lspoiled) l6 c6 k6
  have b6 := F6.binds (ps := P_lspoiled) fun _ _ _ _ _ _ us hl => match us, hl with | [_, _], _ => rfl
  have F7 := fun_mk (st := s_law) l7 c7 k7
  exact ⟨_, fun s v => .of_eq rfl, fun base _ _ => ok_law (A := ⟨f0, _, f1, _, f2, _, f3, _, f4, _, f5, _, f6, _, fa, _⟩) ⟨F0, b0, PySem.W.mg_of X G a0, F1, b1, PySem.W.mg_of X G a1, F2, b2, PySem.W.mg_of X G a2, F3, b3, PySem.W.mg_of X G a3, F4, b4, PySem.W.mg_of X G a4, F5, b5, PySem.W.mg_of X G a5, F6, b6, PySem.W.mg_of X G a6, F7, PySem.W.mg_of X G a7, PySem.W.mg_none_of X G z_abs, PySem.W.mg_none_of X G z_int, PySem.W.mg_none_of X G z_len, PySem.W.mg_none_of X G z_list, PySem.W.mg_none_of X G z_max, PySem.W.mg_none_of X G z_min, PySem.W.mg_none_of X G z_range⟩⟩
end K24
open PySem PySem.W PyProof.Rows
set_option maxHeartbeats 0 in
theorem PySem.Challenge.cw_farpage_k24_spoils_holds : PySem.Challenge.rw_farpage_k24_spoils.Holds := by
  w_on; o_law; k_head; (case hw => w_witness2)
  k_fill
  refine L2.walk_of (l := PySem.Challenge.rw_farpage_k24_spoils) (n := 63) (k := 4) (x := "_law_script") (CX := fun _ => L2.CX0) (sp := fun w => K24.spLaw _) rfl (by decide) rfl ⟨rfl, by decide, by decide⟩ (fun w h Y => PySem.W.kIn_of Y) ?F (fun _ _ a ns hl _ hS => ⟨a, ns, rfl, hS, hl, fun _ => rfl⟩) (fun _ _ _ _ _ h => h)
  case F =>
    intro w mg fa h KX G hmg
    refine' K24.all_mk KX G hmg ?a0 ?l0 ?c0 ?k0 ?a1 ?l1 ?c1 ?k1 ?a2 ?l2 ?c2 ?k2 ?a3 ?l3 ?c3 ?k3 ?a4 ?l4 ?c4 ?k4 ?a5 ?l5 ?c5 ?k5 ?a6 ?l6 ?c6 ?k6 ?a7 ?l7 ?c7 ?k7 ?z_abs ?z_int ?z_len ?z_list ?z_max ?z_min ?z_range
    (case a0 => k_is)
    (case l0 => k_is)
    (case c0 => k_is)
    (case k0 => k_is)
    (case a1 => k_is)
    (case l1 => k_is)
    (case c1 => k_is)
    (case k1 => k_is)
    (case a2 => k_is)
    (case l2 => k_is)
    (case c2 => k_is)
    (case k2 => k_is)
    (case a3 => k_is)
    (case l3 => k_is)
    (case c3 => k_is)
    (case k3 => k_is)
    (case a4 => k_is)
    (case l4 => k_is)
    (case c4 => k_is)
    (case k4 => k_is)
    (case a5 => k_is)
    (case l5 => k_is)
    (case c5 => k_is)
    (case k5 => k_is)
    (case a6 => k_is)
    (case l6 => k_is)
    (case c6 => k_is)
    (case k6 => k_is)
    (case a7 => k_is)
    (case l7 => k_is)
    (case c7 => k_is)
    (case k7 => k_is)
    (case z_abs => k_is)
    (case z_int => k_is)
    (case z_len => k_is)
    (case z_list => k_is)
    (case z_max => k_is)
    (case z_min => k_is)
    (case z_range => k_is)
