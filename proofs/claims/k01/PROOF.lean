import PyProof.Rows.All
import Wide.All
import OpenK.AllK
import Wide.FinOn
import HandS.ForMost
import HandS.IsInst
import HandS.StrMore
import HandS.Codes
import HandS.Evl
import HandS.TupAny
import HandS.TupMul
import HandS.Walk
import PyProof.Rows.StrJoinRep
import PySem.Challenge.RW_farpage_k01_rows_and_pages_known
set_option Elab.async false
set_option linter.all false
set_option maxRecDepth 100000
set_option maxHeartbeats 4000000
/-! Rules of our own over the hand layer: a sign times an int, list(text), ljust with a sign. -/
namespace Fp
open PySem L2 PyProof.Rows
/-- a text by its codes -/
def sOf (l : List Nat) : Str := ⟨l.toArray⟩
theorem sOf_list (l : List Nat) : (sOf l).cps.toList = l := by simp [sOf]
theorem sOf_len (l : List Nat) : (sOf l).length = l.length := by simp [sOf, Str.length]
theorem of_list {z : Str} {l : List Nat} (h : z.cps.toList = l) : z = sOf l := str_of_list (by rw [h, sOf_list])
theorem sOf_inj {l m : List Nat} (h : sOf l = sOf m) : l = m := by
  have := congrArg (fun z => z.cps.toList) h
  simpa [sOf] using this
theorem sOf_app (l m : List Nat) : sOf l ++ sOf m = sOf (l ++ m) := by
  apply of_list
  show ((sOf l) ++ (sOf m)).cps.toList = l ++ m
  rw [show ((sOf l) ++ (sOf m)).cps = (sOf l).cps ++ (sOf m).cps from rfl]
  simp [sOf]
section
variable {X : Cx}
theorem op_mul_str : OpR X (binaryOp .Mult) (fun x y H Q => ∃ c n, x = .str (sOf [c]) ∧ y = .int n ∧ (-100000 ≤ n ∧ n ≤ 100000) ∧ Q (.str (sOf (List.replicate n.toNat c))) H) := by
  intro pins s σ H x y v u Q I rx ry h
  obtain ⟨c, n, rfl, rfl, hz, q⟩ := h
  obtain ⟨t, rfl⟩ := rx
  obtain ⟨t', rfl⟩ := ry
  refine SB.mul (mulOk_of 1 100000 (by rw [sOf_len]; exact Nat.le_refl _) (by omega) (by omega) (by decide) (by decide)) fun t' k => ?_
  have e : Txt.mul (sOf [c]) n = sOf (List.replicate n.toNat c) := of_list (mul_one_list c n)
  rw [e]
  exact ⟨.str (sOf (List.replicate n.toNat c)), H, I.tok _, ⟨_, rfl⟩, q⟩
theorem padOk {i : Int} (h0 : 0 ≤ i) (h1 : i ≤ 100000) : PadOk i = true := padOk_of (by omega) (by omega)
theorem mt_ljustF : MtR X "str.ljust" (fun x xs H Q => ∃ (l : List Nat) (i : Int) (c : Nat), x = .str (sOf l) ∧ xs = [.int i, .str (sOf [c])] ∧ (0 ≤ i ∧ i ≤ 100000) ∧ Q (.str (sOf (l ++ List.replicate (i.toNat - l.length) c))) H) := by
  intro pins s σ H x xs v us Q I rx rs h
  obtain ⟨l, i, c, rfl, rfl, hz, q⟩ := h
  obtain ⟨t, rfl⟩ := rx
  obtain ⟨u, w', rfl, ⟨t', rfl⟩, ⟨t'', rfl⟩⟩ := vals2 rs
  refine ljust_fill (padOk hz.1 hz.2) (sOf_len _) fun t' k => ?_
  have e : Txt.ljustF (sOf l) i ((sOf [c]).cps.getD 0 0) = sOf (l ++ List.replicate (i.toNat - l.length) c) := of_list (by
    rw [ljustF_list, sOf_list, sOf_len]
    rfl)
  rw [e]
  exact ⟨.str (sOf (l ++ List.replicate (i.toNat - l.length) c)), H, I.tok _, ⟨_, rfl⟩, q⟩
theorem vals_signs {acc : List Value} {l : List Nat} (h1 : acc.length = l.length) (h2 : ∀ (j : Nat) v, acc[j]? = some v → ∃ c u, l[j]? = some c ∧ v = .str ⟨#[c]⟩ u) : Vals (l.map fun c => V.str (sOf [c])) acc := by
  induction l generalizing acc with
  | nil =>
    cases acc with
    | nil => exact .nil
    | cons a r => simp at h1
  | cons c r ih =>
    cases acc with
    | nil => simp at h1
    | cons a b =>
      obtain ⟨c', u, e, rfl⟩ := h2 0 a rfl
      have e2 : c' = c := by simpa using e.symm
      subst e2
      exact .cons ⟨u, rfl⟩ (ih (by simpa using h1) fun j v hj => h2 (j + 1) v hj)
theorem call_list_str (hc : X.calm = true) : CallR X (.type "list") (fun xs H Q => ∃ z : List Nat, xs = [.str (sOf z)] ∧ z.length ≤ 100000 ∧ ∀ l, H l = none → Q (.ref l) (upd H l (.lst (z.map fun c => V.str (sOf [c]))))) := by
  intro pins s σ H xs us Q I r h
  obtain ⟨z, rfl, hz, q⟩ := h
  obtain ⟨u, rfl, t, rfl⟩ := vals1 r
  have hl : z.length ≤ sizeLine := Nat.le_trans hz (by decide)
  refine PySem.call_list_str (I.ok.hd hc) (sOf z) t (hn := by show (sOf z).length ≤ sizeLine; rw [sOf_len]; exact hl) fun h' tk acc' c' hk hS' hacc => ?_
  have r' : Vals (z.map fun c => V.str (sOf [c])) acc'.toList := vals_signs (by have := hacc.1; simpa [sOf] using this) fun j v hj => by
    obtain ⟨c, u, e, rfl⟩ := hacc.2 j v (by simpa using hj)
    exact ⟨c, u, by simpa [sOf] using e, rfl⟩
  exact ⟨.ref s.heap.objs.size, _, I.laid (t' := tk) hk (Nat.le_refl _) (show ObjOk X.prog X.w _ h' _ (.lst _) from ⟨by rw [List.length_map]; exact hl, acc'.toList, c', r', by simpa using hS'⟩), rfl, q _ (I.hok.fresh (Nat.le_refl _))⟩
end
/-! ### heaps -/
theorem same_new {H : Hp} {p : Addr} {o : HO} (h : H p = none) : Same H (upd H p o) := fun b x e => by
  rw [upd_ne (ne_of_none e h)]
  exact e
/-- what is new may change -/
theorem Same.mut {H H' : Hp} {p : Addr} {o : HO} (e : Same H H') (h : H p = none) : Same H (upd H' p o) := fun b x hb => by
  rw [upd_ne (ne_of_none hb h)]
  exact e b x hb
/-- a bag of the laws' draws -/
def BagAt (H : Hp) (b : Addr) : Prop := ∃ g s : Int, H b = some (.lst [.int g, .int s]) ∧ 0 ≤ g ∧ 0 ≤ s ∧ s < 1000000000000
/-- the bag has turned, what else stood stands -/
def Bx (b : Addr) (H H' : Hp) : Prop := BagAt H' b ∧ ∀ a o, a ≠ b → H a = some o → H' a = some o
theorem Bx.refl {b : Addr} {H : Hp} (h : BagAt H b) : Bx b H H := ⟨h, fun _ _ _ e => e⟩
theorem Bx.trans {b : Addr} {H H1 H2 : Hp} (x : Bx b H H1) (y : Bx b H1 H2) : Bx b H H2 := ⟨y.1, fun a o n e => y.2 a o n (x.2 a o n e)⟩
theorem Bx.drawn {b : Addr} {H : Hp} {g s : Int} (g0 : 0 ≤ g) (s0 : 0 ≤ s) (s1 : s < 1000000000000) : Bx b H (upd H b (.lst [.int g, .int s])) := ⟨⟨g, s, upd_same, g0, s0, s1⟩, fun a o n e => by
  rw [upd_ne n]
  exact e⟩
theorem Bx.same {b : Addr} {H H1 H2 : Hp} (x : Bx b H H1) (y : Same H1 H2) : Bx b H H2 := by
  obtain ⟨⟨g, s, h, r⟩, k⟩ := x
  exact ⟨⟨g, s, y _ _ h, r⟩, fun a o n e => y _ _ (k a o n e)⟩
/-- from before the bag was made -/
theorem Bx.back {b : Addr} {H0 H H' : Hp} (x : Bx b H H') (y : Same H0 H) (n : H0 b = none) : Same H0 H' := fun a o e => x.2 a o (ne_of_none e n) (y a o e)
theorem Bx.mut {b p : Addr} {H H' : Hp} {o : HO} (x : Bx b H H') (hp : H p = none) (n : p ≠ b) : Bx b H (upd H' p o) := by
  obtain ⟨⟨g, s, h, r⟩, k⟩ := x
  refine ⟨⟨g, s, by rw [upd_ne n.symm]; exact h, r⟩, fun a u m e => ?_⟩
  rw [upd_ne (ne_of_none e hp)]
  exact k a u m e
theorem Bx.free {b p : Addr} {H H' : Hp} (x : Bx b H H') (h : H' p = none) : H p = none := by
  have n : p ≠ b := by
    obtain ⟨g, s, e, _⟩ := x.1
    exact (ne_of_none e h).symm
  cases q : H p with
  | none => rfl
  | some o =>
    rw [x.2 p o n q] at h
    cases h
theorem BagAt.new {H : Hp} {p : Addr} {g s : Int} (g0 : 0 ≤ g) (s0 : 0 ≤ s) (s1 : s < 1000000000000) : BagAt (upd H p (.lst [.int g, .int s])) p := ⟨g, s, upd_same, g0, s0, s1⟩
theorem BagAt.ne {H : Hp} {b p : Addr} (h : BagAt H b) (n : H p = none) : p ≠ b := by
  obtain ⟨g, s, e, _⟩ := h
  exact (ne_of_none e n).symm
/-- a list's own address is no bag's where its items are texts -/
def cells (l : List Nat) : List V := l.map fun c => V.str (sOf [c])
theorem cells_len (l : List Nat) : (cells l).length = l.length := List.length_map ..
theorem cells_set (l : List Nat) (j c : Nat) : (cells l).set j (.str (sOf [c])) = cells (l.set j c) := by
  unfold cells
  rw [List.map_set]
theorem cells_app (l : List Nat) (c : Nat) : cells l ++ [.str (sOf [c])] = cells (l ++ [c]) := by
  unfold cells
  rw [List.map_append]
  rfl
/-- the cells of rows -/
def Cell (c : Nat) : Prop := c = 46 ∨ c = 35
def Row (l : List Nat) : Prop := ∀ c ∈ l, Cell c
theorem Row.set {l : List Nat} {j c : Nat} (h : Row l) (hc : Cell c) : Row (l.set j c) := fun x hx => by
  rcases List.mem_or_eq_of_mem_set hx with e | e
  · exact h x e
  · rw [e]
    exact hc
theorem Row.app {l : List Nat} {c : Nat} (h : Row l) (hc : Cell c) : Row (l ++ [c]) := fun x hx => by
  rcases List.mem_append.mp hx with e | e
  · exact h x e
  · rw [List.mem_singleton.mp e]
    exact hc
theorem Row.rep {n c : Nat} (hc : Cell c) : Row (List.replicate n c) := fun x hx => by
  rw [(List.mem_replicate.mp hx).2]
  exact hc
theorem Row.nil : Row [] := fun _ h => nomatch h
def cellN (i : Int) : Nat := if i = 0 then 46 else 35
theorem cellN_cell (i : Int) : Cell (cellN i) := by
  unfold cellN
  split
  · exact .inl rfl
  · exact .inr rfl
theorem cell_at {i : Int} (h0 : 0 ≤ i) (h1 : i < 2) : atI (Str.ofString ".#").cps.toList i = some (cellN i) := by
  have : i = 0 ∨ i = 1 := by omega
  rcases this with rfl | rfl <;> rfl
theorem two_len : (Str.ofString ".#").length ≤ sizeLine := by decide
theorem sz {n : Nat} (h : n ≤ 100000) : n ≤ sizeLine := Nat.le_trans h (by decide)
theorem szl {n : Nat} (h : n < 100000) : n < sizeLine := Nat.lt_of_lt_of_le h (by decide)
theorem sIx_nat' (n d a : Nat) : HT.sIx n d (some (a : Int)) = min a n := HT.sIx_nat n d a
theorem cutS_nat (l : List Nat) (a b : Nat) (ha : a ≤ l.length) (hb : b ≤ l.length) : cutS (sOf l) (some (a : Int)) (some (b : Int)) = sOf ((l.drop a).take (b - a)) := by
  unfold cutS
  rw [HT.sIx_nat, HT.sIx_nat, sOf_len, sOf_list, Nat.min_eq_left ha, Nat.min_eq_left hb]
  rfl
theorem take_more {α : Type} (l : List α) (i : Nat) (x : α) (h : l[i]? = some x) : l.take (i + 1) = l.take i ++ [x] := by
  rw [List.take_add_one, h]
  rfl
theorem range_more {α : Type} (f : Nat → α) (i : Nat) : (List.range (i + 1)).map f = (List.range i).map f ++ [f i] := by
  rw [List.range_succ, List.map_append]
  rfl
theorem join_cells : ∀ l : List Nat, Txt.join (Str.ofString "") (l.map fun c => sOf [c]) = sOf l := by
  intro l
  show Builtin.Str.glued (Str.ofString "") (l.map fun c => sOf [c]) = sOf l
  rw [StrLaws.glued_eq_join]
  induction l with
  | nil => rfl
  | cons c r ih =>
    cases r with
    | nil => rfl
    | cons d r =>
      show sOf [c] ++ Str.ofString "" ++ Str.join (Str.ofString "") (List.map (fun c => sOf [c]) (d :: r)) = sOf (c :: d :: r)
      rw [ih, show (Str.ofString "") = sOf [] from rfl, sOf_app, sOf_app]
      rfl
theorem cells_strs (l : List Nat) : cells l = (l.map fun c => sOf [c]).map V.str := by
  rw [List.map_map]
  rfl
theorem ones_sum (l : List Nat) : ((l.map fun c => sOf [c]).map (·.length)).sum = l.length := by
  induction l with
  | nil => rfl
  | cons c r ih =>
    rw [List.map_cons, List.map_cons, List.sum_cons, ih, sOf_len, List.length_cons]
    show 1 + r.length = r.length + 1
    omega
theorem join_size {l : List Nat} (h : l.length ≤ 100000) : ((l.map fun c => sOf [c]).map (·.length)).sum + (l.map fun c => sOf [c]).length * (Str.ofString "").length ≤ 16777216 := by
  rw [ones_sum, show (Str.ofString "").length = 0 from rfl]
  omega
theorem rep_one (n : Nat) (c : Nat) : (List.replicate n [V.str (sOf [c])]).flatten = cells (List.replicate n c) := by
  induction n with
  | zero => rfl
  | succ k ih =>
    rw [List.replicate_succ, List.flatten_cons, ih, List.replicate_succ]
    rfl

/-! ### lists and tuples of texts -/
def sV (l : List Nat) : V := .str (sOf l)
def sD (l : List Nat) : PyData := .str (sOf l)
theorem dp_rows {K : PySem.W.Frag} {H : Hp} : ∀ rows : List (List Nat), DpAll K H (rows.map sV) (rows.map sD)
  | [] => .nil
  | r :: rs => .cons (.str _) (dp_rows rs)
def Codes (l : List Nat) : Prop := ∀ c ∈ l, c < 128
theorem strOk_of {l : List Nat} (h : Codes l) : PyData.strOk (sOf l) = true := by
  unfold PyData.strOk sOf
  rw [Array.all_eq_true']
  intro c hc
  have h2 := h c (by simpa using hc)
  exact decide_eq_true (by omega)
theorem lay_rows : ∀ {rows : List (List Nat)}, (∀ r ∈ rows, Codes r) → PyData.canLayAll0 (rows.map sD) = true
  | [], _ => by simp [PyData.canLayAll0]
  | r :: rs, h => by
    have h1 : PyData.canLay0 (sD r) = true := by
      show PyData.canLay0 (.str (sOf r)) = true
      simp only [PyData.canLay0]
      exact strOk_of (h r (List.mem_cons_self ..))
    have h2 := lay_rows (rows := rs) fun x hx => h x (List.mem_cons_of_mem _ hx)
    simp only [List.map_cons, PyData.canLayAll0, h1, h2, Bool.and_true]
theorem depth_rows : ∀ rows : List (List Nat), PyData.depthAll (rows.map sD) = 0
  | [] => by simp [PyData.depthAll]
  | r :: rs => by
    have h := depth_rows rs
    simp only [List.map_cons, PyData.depthAll, h, sD, PyData.depth]
    rfl
theorem shaped_tup {rows : List (List Nat)} (h : ∀ r ∈ rows, Codes r) : SeqAt.shaped (.tuple (rows.map sD)) = true := by
  show (PyData.canLay0 (.tuple (rows.map sD)) && decide (PyData.depth (.tuple (rows.map sD)) ≤ 64)) = true
  rw [Bool.and_eq_true]
  refine ⟨by simp only [PyData.canLay0]; exact lay_rows h, decide_eq_true ?_⟩
  simp only [PyData.depth, depth_rows]
  omega
theorem shaped_lst {rows : List (List Nat)} (h : ∀ r ∈ rows, Codes r) : SeqAt.shaped (.list (rows.map sD)) = true := by
  show (PyData.canLay0 (.list (rows.map sD)) && decide (PyData.depth (.list (rows.map sD)) ≤ 64)) = true
  rw [Bool.and_eq_true]
  refine ⟨by simp only [PyData.canLay0]; exact lay_rows h, decide_eq_true ?_⟩
  simp only [PyData.depth, depth_rows]
  omega
theorem eqv_tup {rows : List (List Nat)} (h : ∀ r ∈ rows, Codes r) : PyData.eqv (.tuple (rows.map sD)) (.tuple (rows.map sD)) = true := SeqAt.eqv_refl _ (by simp only [PyData.canLay0]; exact lay_rows h)
theorem eqv_lst {rows : List (List Nat)} (h : ∀ r ∈ rows, Codes r) : PyData.eqv (.list (rows.map sD)) (.list (rows.map sD)) = true := SeqAt.eqv_refl _ (by simp only [PyData.canLay0]; exact lay_rows h)
theorem Row.codes {l : List Nat} (h : Row l) : Codes l := fun c hc => by
  rcases h c hc with e | e <;> rw [e] <;> decide
theorem same_t {K : PySem.W.Frag} {H H' : Hp} {a : Addr} {xs : List V} (e : Same H H') (h : SqT K H a xs) : SqT K H' a xs := Evl.ex_t e h
theorem cut1 (xs : List V) : cutV xs (some 1) none = xs.drop 1 := by
  unfold cutV
  rw [show HT.sIx xs.length 0 (some 1) = min 1 xs.length from HT.sIx_nat xs.length 0 1, HT.sIx_none]
  cases xs with
  | nil => rfl
  | cons x r =>
    rw [show min 1 (x :: r).length = 1 by
      rw [List.length_cons]
      omega]
    show (List.take ((x :: r).length - 1) r) = r
    rw [List.length_cons, Nat.add_sub_cancel]
    exact List.take_length

/-! ### tuples of any kind, texts times an int -/
section
variable {X : Cx}
theorem cutV_whole {xs : List V} {lo hi : Option Int} (h : HT.sIx xs.length 0 lo = 0 ∧ HT.sIx xs.length xs.length hi = xs.length) : cutV xs lo hi = xs := by
  unfold cutV
  rw [h.1, h.2]
  show (xs.drop 0).take (xs.length - 0) = xs
  rw [List.drop_zero, Nat.sub_zero, List.take_length]
theorem sl_tupW : SlR X (fun x lo hi H Q => ∃ a xs, x = .ref a ∧ H a = some (.tup xs) ∧ ∀ q H', Same H H' → H' q = some (.tup (cutV xs lo hi)) → Q (.ref q) H') := by
  intro pins s σ H x v vl vu lo hi sl Q I rx hs pl pu h
  obtain ⟨a, xs, rfl, hx, q⟩ := h
  refine sl_tupA pins s σ H _ v vl vu lo hi sl Q I rx hs pl pu ⟨a, xs, rfl, .inl (.inl hx), fun e => ?_, fun e p hp => ?_⟩
  · exact q a H (Same.refl H) (by rw [cutV_whole e]; exact hx)
  · exact q p _ (same_new hp) upd_same
theorem op_catW : OpR X (binaryOp .Add) (fun x y H Q => ∃ a b xs ys, x = .ref a ∧ y = .ref b ∧ H a = some (.tup xs) ∧ H b = some (.tup ys) ∧ xs.length + ys.length ≤ 100000 ∧ ∀ q H', Same H H' → H' q = some (.tup (xs ++ ys)) → Q (.ref q) H') := by
  intro pins s σ H x y v u Q I rx ry h
  obtain ⟨a, b, xs, ys, rfl, rfl, ha, hb, hz, q⟩ := h
  refine op_catA pins s σ H _ _ v u Q I rx ry ⟨a, b, xs, ys, rfl, rfl, .inl (.inl ha), .inl (.inl hb), sz hz, fun e => ?_, fun _ e => ?_, fun _ _ p hp => ?_⟩
  · subst e
    exact q b H (Same.refl H) hb
  · subst e
    exact q a H (Same.refl H) (by rw [List.append_nil]; exact ha)
  · exact q p _ (same_new hp) upd_same
theorem op_mul_txt : OpR X (binaryOp .Mult) (fun x y H Q => ∃ (z : Str) (n : Int), x = .str z ∧ y = .int n ∧ (0 ≤ n ∧ n ≤ 1000 ∧ z.length ≤ 1000) ∧ ∀ m : Str, (m.length : Int) = (z.length : Int) * n → Q (.str m) H) := by
  intro pins s σ H x y v u Q I rx ry h
  obtain ⟨z, n, rfl, rfl, hz, q⟩ := h
  obtain ⟨t, rfl⟩ := rx
  obtain ⟨t', rfl⟩ := ry
  refine SB.mul (mulOk_of 1000 1000 hz.2.2 (by omega) (by omega) (by decide) (by decide)) fun t' k => ?_
  have e := len_mul z n
  rw [if_neg (by simp; omega)] at e
  exact ⟨.str (Txt.mul z n), H, I.tok _, ⟨_, rfl⟩, q _ e⟩
end
theorem cutV_mem {xs : List V} {lo hi : Option Int} {v : V} (h : v ∈ cutV xs lo hi) : v ∈ xs := by
  unfold cutV at h
  exact List.mem_of_mem_drop (List.mem_of_mem_take h)
theorem cutV_len (xs : List V) (lo hi : Option Int) : (cutV xs lo hi).length ≤ xs.length := by
  unfold cutV
  rw [List.length_take, List.length_drop]
  omega
/-! ### things of the laws -/
def Flat (v : V) : Prop := v = .non ∨ (∃ x, v = .bl x) ∨ (∃ i, v = .int i) ∨ ∃ z : Str, v = .str z ∧ z.length ≤ 100000
def It (b : Addr) (H : Hp) (v : V) : Prop := Flat v ∨ (∃ a xs, v = .ref a ∧ a ≠ b ∧ H a = some (.lst xs)) ∨ ∃ a xs, v = .ref a ∧ H a = some (.tup xs)
def Tg (b : Addr) (H : Hp) (v : V) : Prop := Flat v ∨ (∃ a xs, v = .ref a ∧ a ≠ b ∧ H a = some (.lst xs)) ∨ ∃ a xs, v = .ref a ∧ H a = some (.tup xs) ∧ xs.length ≤ 1000 ∧ ∀ u ∈ xs, It b H u
theorem BagAt.tup {H : Hp} {b a : Addr} {xs : List V} (h : BagAt H b) (e : H a = some (.tup xs)) : a ≠ b := fun z => by
  obtain ⟨g, s, e2, _⟩ := h
  rw [z, e2] at e
  cases e
theorem It.bx {b : Addr} {H H' : Hp} {v : V} (h : It b H v) (hb : BagAt H b) (x : Bx b H H') : It b H' v := by
  rcases h with h | ⟨a, xs, rfl, n, e⟩ | ⟨a, xs, rfl, e⟩
  · exact .inl h
  · exact .inr (.inl ⟨a, xs, rfl, n, x.2 _ _ n e⟩)
  · exact .inr (.inr ⟨a, xs, rfl, x.2 _ _ (hb.tup e) e⟩)
theorem Tg.bx {b : Addr} {H H' : Hp} {v : V} (h : Tg b H v) (hb : BagAt H b) (x : Bx b H H') : Tg b H' v := by
  rcases h with h | ⟨a, xs, rfl, n, e⟩ | ⟨a, xs, rfl, e, l, k⟩
  · exact .inl h
  · exact .inr (.inl ⟨a, xs, rfl, n, x.2 _ _ n e⟩)
  · exact .inr (.inr ⟨a, xs, rfl, x.2 _ _ (hb.tup e) e, l, fun u hu => (k u hu).bx hb x⟩)
theorem Tg.it {b : Addr} {H : Hp} {v : V} (h : Tg b H v) : It b H v := by
  rcases h with h | h | ⟨a, xs, rfl, e, l, k⟩
  · exact .inl h
  · exact .inr (.inl h)
  · exact .inr (.inr ⟨a, xs, rfl, e⟩)
theorem Tg.str {b : Addr} {H : Hp} {z : Str} (h : z.length ≤ 100000) : Tg b H (.str z) := .inl (.inr (.inr (.inr ⟨z, rfl, h⟩)))
theorem It.str {b : Addr} {H : Hp} {z : Str} (h : z.length ≤ 100000) : It b H (.str z) := .inl (.inr (.inr (.inr ⟨z, rfl, h⟩)))
theorem str_sOf (z : Str) : z = sOf z.cps.toList := of_list rfl

/-! ### rules whose new objects stand in an opaque heap -/
section
variable {X : Cx} {es : List Expr} {t : TA} {pos : Pos}
theorem pe_weaken {e : Expr} {te tf : TE} (h : PE X e te) (k : ∀ σ H Q, tf σ H Q → te σ H Q) : PE X e tf := ⟨fun pins s σ H Q I q => h.run pins s σ H Q I (k σ H Q q)⟩
def tLstW (t : TA) : TE := fun σ H Q => t σ H fun xs H1 => xs.length ≤ 100000 ∧ ∀ p H2, H1 p = none → Same H1 H2 → H2 p = some (.lst xs) → Q (.ref p) H2
def tTupW (t : TA) : TE := fun σ H Q => t σ H fun xs H1 => xs.length ≤ 100000 ∧ ∀ p H2, H1 p = none → Same H1 H2 → H2 p = some (.tup xs) → Q (.ref p) H2
end
def rNewW (H : Hp) (o : HO) (Q : VK) : Prop := ∀ p H2, H p = none → Same H H2 → H2 p = some o → Q (.ref p) H2
theorem rNewW.go {H : Hp} {o : HO} {Q : VK} (q : rNewW H o Q) : ∀ p, H p = none → Q (.ref p) (upd H p o) := fun p hp => q p _ hp (same_new hp) upd_same
section
variable {X : Cx}
theorem op_catLW : OpR X (binaryOp .Add) (fun x y H Q => ∃ a b xs ys, x = .ref a ∧ y = .ref b ∧ H a = some (.lst xs) ∧ H b = some (.lst ys) ∧ xs.length + ys.length ≤ 100000 ∧ rNewW H (.lst (xs ++ ys)) Q) := by
  intro pins s σ H x y v u Q I rx ry h
  obtain ⟨a, b, xs, ys, rfl, rfl, ha, hb, hz, q⟩ := h
  exact op_cat pins s σ H _ _ v u Q I rx ry ⟨a, b, xs, ys, rfl, rfl, ha, hb, sz hz, q.go⟩
theorem op_repTW : OpR X (binaryOp .Mult) (fun x y H Q => ∃ l k xs, x = .ref l ∧ y = .int k ∧ H l = some (.tup xs) ∧ xs ≠ [] ∧ 2 ≤ k ∧ k ≤ 1000 ∧ xs.length ≤ 1000 ∧ rNewW H (.tup (List.replicate k.toNat xs).flatten) Q) := by
  intro pins s σ H x y v u Q I rx ry h
  obtain ⟨l, k, xs, rfl, rfl, hl, h1, h2, h3, h4, q⟩ := h
  exact op_repT pins s σ H _ _ v u Q I rx ry ⟨l, k, xs, rfl, rfl, .inl (.inl hl), h1, h2, h3, h4, q.go⟩
theorem call_list_ofW : CallR X (.type "list") (fun xs H Q => ∃ p ys, xs = [.ref p] ∧ (H p = some (.lst ys) ∨ H p = some (.tup ys)) ∧ rNewW H (.lst ys) Q) := by
  intro pins s σ H xs us Q I r h
  obtain ⟨p, ys, rfl, hp, q⟩ := h
  exact call_list_of pins s σ H _ us Q I r ⟨p, ys, rfl, hp.elim (fun h => .inl (SqL.of h)) (fun h => .inr (.inl (.inl h))), q.go⟩
theorem call_list_strW (hc : X.calm = true) : CallR X (.type "list") (fun xs H Q => ∃ z : Str, xs = [.str z] ∧ z.length ≤ 100000 ∧ rNewW H (.lst (cells z.cps.toList)) Q) := by
  intro pins s σ H xs us Q I r h
  obtain ⟨z, rfl, hz, q⟩ := h
  refine call_list_str hc pins s σ H _ us Q I r ⟨z.cps.toList, by rw [← str_sOf], ?_, q.go⟩
  rw [Array.length_toList]
  exact hz
end
section
variable {X : Cx} {es : List Expr} {t : TA} {pos : Pos}
theorem pe_tupW {x1} (h : PA X es t) : PE X (.Tuple es x1 pos) (tTupW t) := by
  refine ⟨fun pins s σ H Q I hq => ?_⟩
  refine wpAny_Tuple_spliced (thn (h.run pos pins s σ H _ I hq) fun us s1 ⟨xs, H1, I1, r, z, q⟩ => ⟨by rw [← r.length]; exact sz z, ?_⟩)
  have hf : H1 s1.heap.objs.size = none := I1.hok.fresh (Nat.le_refl _)
  refine ⟨.ref s1.heap.objs.size, upd H1 s1.heap.objs.size (.tup xs), I1.laid (t' := s1.toks) (fun b u e => Heap.get?_push_of_some _ e) (Nat.le_refl _) ?_, rfl, q _ _ hf (same_new hf) upd_same⟩
  exact ⟨sz z, us, r, ⟨_, Heap.get?_push_size _ rfl, rfl, _, rfl⟩⟩
theorem pe_lstW (h : PA X es t) : PE X (.List es pos) (tLstW t) := by
  refine ⟨fun pins s σ H Q I hq => ?_⟩
  refine wpAny_List_spliced (thn (h.run pos pins s σ H _ I hq) fun us s1 ⟨xs, H1, I1, r, z, q⟩ => ⟨by rw [← r.length]; exact sz z, ?_⟩)
  have hf : H1 s1.heap.objs.size = none := I1.hok.fresh (Nat.le_refl _)
  refine ⟨.ref s1.heap.objs.size, upd H1 s1.heap.objs.size (.lst xs), I1.laid (t' := s1.toks) (fun b u e => Heap.get?_push_of_some _ e) (Nat.le_refl _) ?_, rfl, q _ _ hf (same_new hf) upd_same⟩
  exact ⟨sz z, us, 0, r, Heap.get?_push_size _ rfl⟩
end
end Fp

set_option Elab.async false
set_option linter.all false
set_option maxRecDepth 100000
set_option maxHeartbeats 4000000
namespace K01
open PySem PySem.Spec PyProof.Rows L2 Fp
def topS (i : Nat) : Stmt := PySem.Challenge.pw_farpage_k01_rows_and_pages_known.main.body.getD i (.Pass ⟨0, 0, 0, 0⟩)
abbrev s_is_row : Stmt := topS 6
abbrev N_is_row : List Str := ["thing", "cell"]
abbrev P_is_row : List Str := ["thing"]
theorem sc_is_row : FnScope N_is_row P_is_row (defScope s_is_row) := ⟨rfl, rfl, rfl, by decide +kernel, rfl, by decide +kernel, by decide +kernel⟩
abbrev s_is_page : Stmt := topS 7
abbrev N_is_page : List Str := ["thing", "row"]
abbrev P_is_page : List Str := ["thing"]
theorem sc_is_page : FnScope N_is_page P_is_page (defScope s_is_page) := ⟨rfl, rfl, rfl, by decide +kernel, rfl, by decide +kernel, by decide +kernel⟩
abbrev s_bag : Stmt := topS 9
abbrev N_bag : List Str := ["_law_script", "_law_at", "_law_cell", "_law_great"]
abbrev P_bag : List Str := ["_law_script", "_law_at"]
theorem sc_bag : FnScope N_bag P_bag (defScope s_bag) := ⟨rfl, rfl, rfl, by decide +kernel, rfl, by decide +kernel, by decide +kernel⟩
abbrev s_draw : Stmt := topS 10
abbrev N_draw : List Str := ["_law_bag_here", "_law_many", "_law_digit"]
abbrev P_draw : List Str := ["_law_bag_here", "_law_many"]
theorem sc_draw : FnScope N_draw P_draw (defScope s_draw) := ⟨rfl, rfl, rfl, by decide +kernel, rfl, by decide +kernel, by decide +kernel⟩
abbrev s_row : Stmt := topS 11
abbrev N_row : List Str := ["_law_bag_here", "_law_breadth", "_law_above", "_law_way", "_law_row_here", "_law_most", "_law_colour", "_law_left", "_law_place", "_law_turn"]
abbrev P_row : List Str := ["_law_bag_here", "_law_breadth", "_law_above"]
theorem sc_row : FnScope N_row P_row (defScope s_row) := ⟨rfl, rfl, rfl, by decide +kernel, rfl, by decide +kernel, by decide +kernel⟩
abbrev s_page : Stmt := topS 12
abbrev N_page : List Str := ["_law_bag_here", "_law_most_cells", "_law_most_rows", "_law_breadth", "_law_many", "_law_rows_here", "_law_k"]
abbrev P_page : List Str := ["_law_bag_here", "_law_most_cells", "_law_most_rows"]
theorem sc_page : FnScope N_page P_page (defScope s_page) := ⟨rfl, rfl, rfl, by decide +kernel, rfl, by decide +kernel, by decide +kernel⟩
abbrev s_signs : Stmt := topS 13
abbrev N_signs : List Str := []
abbrev P_signs : List Str := []
theorem sc_signs : FnScope N_signs P_signs (defScope s_signs) := ⟨rfl, rfl, rfl, by decide +kernel, rfl, by decide +kernel, by decide +kernel⟩
abbrev s_is_row_l : Stmt := topS 14
abbrev N_is_row_l : List Str := ["_law_thing", "_law_sign"]
abbrev P_is_row_l : List Str := ["_law_thing"]
theorem sc_is_row_l : FnScope N_is_row_l P_is_row_l (defScope s_is_row_l) := ⟨rfl, rfl, rfl, by decide +kernel, rfl, by decide +kernel, by decide +kernel⟩
abbrev s_is_page_l : Stmt := topS 15
abbrev N_is_page_l : List Str := ["_law_thing", "_law_row_here"]
abbrev P_is_page_l : List Str := ["_law_thing"]
theorem sc_is_page_l : FnScope N_is_page_l P_is_page_l (defScope s_is_page_l) := ⟨rfl, rfl, rfl, by decide +kernel, rfl, by decide +kernel, by decide +kernel⟩
abbrev s_odd : Stmt := topS 16
abbrev N_odd : List Str := ["_law_bag_here", "_law_some"]
abbrev P_odd : List Str := ["_law_bag_here"]
theorem sc_odd : FnScope N_odd P_odd (defScope s_odd) := ⟨rfl, rfl, rfl, by decide +kernel, rfl, by decide +kernel, by decide +kernel⟩
abbrev s_rows : Stmt := topS 17
abbrev N_rows : List Str := ["_law_bag_here", "_law_row_here", "_law_signs_here", "_law_place", "_law_found", "_law_longer"]
abbrev P_rows : List Str := ["_law_bag_here", "_law_row_here"]
theorem sc_rows : FnScope N_rows P_rows (defScope s_rows) := ⟨rfl, rfl, rfl, by decide +kernel, rfl, by decide +kernel, by decide +kernel⟩
abbrev s_pages : Stmt := topS 18
abbrev N_pages : List Str := ["_law_bag_here", "_law_page_here", "_law_place", "_law_short", "_law_found"]
abbrev P_pages : List Str := ["_law_bag_here", "_law_page_here"]
theorem sc_pages : FnScope N_pages P_pages (defScope s_pages) := ⟨rfl, rfl, rfl, by decide +kernel, rfl, by decide +kernel, by decide +kernel⟩
abbrev s_same : Stmt := topS 19
abbrev N_same : List Str := ["_law_found", "_law_due"]
abbrev P_same : List Str := ["_law_found", "_law_due"]
theorem sc_same : FnScope N_same P_same (defScope s_same) := ⟨rfl, rfl, rfl, by decide +kernel, rfl, by decide +kernel, by decide +kernel⟩
abbrev s_law : Stmt := topS 20
abbrev N_law : List Str := ["_law_script", "_law_k", "_law_bag_here", "_law_page_here", "_law_thing"]
abbrev P_law : List Str := ["_law_script"]
theorem sc_law : FnScope N_law P_law (defScope s_law) := ⟨rfl, rfl, rfl, by decide +kernel, rfl, by decide +kernel, by decide +kernel⟩
structure Ad where
  a_is_row : Addr
  d_is_row : FuncData
  a_is_page : Addr
  d_is_page : FuncData
  a_bag : Addr
  d_bag : FuncData
  a_draw : Addr
  d_draw : FuncData
  a_row : Addr
  d_row : FuncData
  a_page : Addr
  d_page : FuncData
  a_signs : Addr
  d_signs : FuncData
  a_is_row_l : Addr
  d_is_row_l : FuncData
  a_is_page_l : Addr
  d_is_page_l : FuncData
  a_odd : Addr
  d_odd : FuncData
  a_rows : Addr
  d_rows : FuncData
  a_pages : Addr
  d_pages : FuncData
  a_same : Addr
  d_same : FuncData
  a_law : Addr
  d_law : FuncData
  t_DARK : Tok
  t_LEAST_BREADTH : Tok
  t_LIGHT : Tok
  t_MOST_BREADTH : Tok
  t_MOST_ROWS : Tok
structure Txt (K : PySem.W.Frag) (mg : Str → Option Value) (A : Ad) : Prop where
  F_is_row : Fun K "is_row" "is_row" s_is_row A.a_is_row A.d_is_row
  b_is_row : Binds K A.d_is_row P_is_row []
  g_is_row : mg "is_row" = some (.ref A.a_is_row)
  F_is_page : Fun K "is_page" "is_page" s_is_page A.a_is_page A.d_is_page
  b_is_page : Binds K A.d_is_page P_is_page []
  g_is_page : mg "is_page" = some (.ref A.a_is_page)
  F_bag : Fun K "_law_bag" "_law_bag" s_bag A.a_bag A.d_bag
  b_bag : Binds K A.d_bag P_bag []
  g_bag : mg "_law_bag" = some (.ref A.a_bag)
  F_draw : Fun K "_law_draw" "_law_draw" s_draw A.a_draw A.d_draw
  b_draw : Binds K A.d_draw P_draw []
  g_draw : mg "_law_draw" = some (.ref A.a_draw)
  F_row : Fun K "_law_row" "_law_row" s_row A.a_row A.d_row
  b_row : Binds K A.d_row P_row []
  g_row : mg "_law_row" = some (.ref A.a_row)
  F_page : Fun K "_law_page" "_law_page" s_page A.a_page A.d_page
  b_page : Binds K A.d_page P_page []
  g_page : mg "_law_page" = some (.ref A.a_page)
  F_signs : Fun K "_law_signs" "_law_signs" s_signs A.a_signs A.d_signs
  b_signs : Binds K A.d_signs P_signs []
  g_signs : mg "_law_signs" = some (.ref A.a_signs)
  F_is_row_l : Fun K "_law_is_row" "_law_is_row" s_is_row_l A.a_is_row_l A.d_is_row_l
  b_is_row_l : Binds K A.d_is_row_l P_is_row_l []
  g_is_row_l : mg "_law_is_row" = some (.ref A.a_is_row_l)
  F_is_page_l : Fun K "_law_is_page" "_law_is_page" s_is_page_l A.a_is_page_l A.d_is_page_l
  b_is_page_l : Binds K A.d_is_page_l P_is_page_l []
  g_is_page_l : mg "_law_is_page" = some (.ref A.a_is_page_l)
  F_odd : Fun K "_law_odd" "_law_odd" s_odd A.a_odd A.d_odd
  b_odd : Binds K A.d_odd P_odd []
  g_odd : mg "_law_odd" = some (.ref A.a_odd)
  F_rows : Fun K "_law_rows" "_law_rows" s_rows A.a_rows A.d_rows
  b_rows : Binds K A.d_rows P_rows []
  g_rows : mg "_law_rows" = some (.ref A.a_rows)
  F_pages : Fun K "_law_pages" "_law_pages" s_pages A.a_pages A.d_pages
  b_pages : Binds K A.d_pages P_pages []
  g_pages : mg "_law_pages" = some (.ref A.a_pages)
  F_same : Fun K "_law_same" "_law_same" s_same A.a_same A.d_same
  b_same : Binds K A.d_same P_same []
  g_same : mg "_law_same" = some (.ref A.a_same)
  F_law : Fun K "law" "law" s_law A.a_law A.d_law
  g_law : mg "law" = some (.ref A.a_law)
  z_abs : mg "abs" = none
  z_all : mg "all" = none
  z_bool : mg "bool" = none
  z_isinstance : mg "isinstance" = none
  z_len : mg "len" = none
  z_list : mg "list" = none
  z_max : mg "max" = none
  z_min : mg "min" = none
  z_range : mg "range" = none
  z_str : mg "str" = none
  z_tuple : mg "tuple" = none
  c_DARK : mg "DARK" = some (.str "#" A.t_DARK)
  c_LEAST_BREADTH : mg "LEAST_BREADTH" = some (.int 8 A.t_LEAST_BREADTH)
  c_LIGHT : mg "LIGHT" = some (.str "." A.t_LIGHT)
  c_MOST_BREADTH : mg "MOST_BREADTH" = some (.int 64 A.t_MOST_BREADTH)
  c_MOST_ROWS : mg "MOST_ROWS" = some (.int 24 A.t_MOST_ROWS)
section
variable {P : Program} {w : World} {K : PySem.W.Frag} {mg : Str → Option Value} {base : Heap}
def spBag (K : PySem.W.Frag) : Sp := fun vs H Q _ => ∃ (a : Addr) (ns : List Int) (k : Int), vs = [.ref a, .int k] ∧ SqL K H a (ns.map V.int) ∧ 0 ≤ k ∧ k ≤ 1000 ∧
  ∀ p g s, H p = none → 0 ≤ g → 0 ≤ s → s < 1000000000000 → Q (.ref p) (upd H p (.lst [.int g, .int s]))
theorem ok_bag {A : Ad} (T : Txt K mg A) : FnOk P w K mg base CX0 1 A.a_bag A.d_bag P_bag (spBag K) := by
  refine T.F_bag.ok sc_bag (fun vs H Q E h => ?_) (fun cdv Ar outer s H vs Q E hr h => ?_)
  · obtain ⟨a, ns, k, rfl, _⟩ := h
    rfl
  · obtain ⟨a, ns, k, rfl, hS, k0, k1, q⟩ := h
    refine ⟨_, (pss_cons (ps_set (i := 2) sc_bag.nd rfl (Or.inl rfl) pe_int)
      (pss_cons (ps_if (pt_cmpR op_lt (pv 1) (pe_callB (r := fun xs H Q => ∃ p ys, xs = [.ref p] ∧ (SqL K H p ys ∨ SqT K H p ys) ∧ Q (.int ys.length) H) call_len_seq (by rfl) T.z_len PySem.boot_len (pa_cons (pv 0) pa_nil)) (nomark _))
      (pss_one (ps_set (i := 2) sc_bag.nd rfl (Or.inl rfl) (pe_ix (r := rIxL K) ix_list (pv 0) (pv 1) (fun _ _ => rfl)))) pss_nil)
      (pss_cons (ps_set (i := 3) sc_bag.nd rfl (Or.inl rfl) pe_int)
      (pss_cons (ps_if (pt_cmpR op_ge (pe_callB call_abs (by rfl) T.z_abs (by decide +kernel) (pa_cons (pv 2) pa_nil)) (pe_op op_pow pe_int pe_int) (nomark _))
      (pss_one (ps_set (i := 3) sc_bag.nd rfl (Or.inl rfl) (pe_callB call_abs (by rfl) T.z_abs (by decide +kernel) (pa_cons (pv 2) pa_nil)))) pss_nil)
      (pss_one (ps_ret (pe_lst (pa_cons (pv 3) (pa_cons (pe_op op_add (pe_op op_add (pe_op op_mul (pe_op op_mod (pv 2) pe_int) pe_int) (pe_op op_mul pe_int (pv 1))) pe_int) pa_nil))))))))), ?_⟩
    have fin : ∀ (c g : Int), 0 ≤ g → tSeq (tIfS (tTest (tOp (rI0 fun i j => .bl (decide (j ≤ i))) (tCB (fun xs H Q => ∃ i, xs = [.int i] ∧ Q (.int (if i < 0 then -i else i)) H) (tCons (tVar 2) tNil)) (tOp (rI CPow fun i j => .int (i ^ j.toNat)) (tC (.int 10)) (tC (.int 18))))) (tAsg (tCB (fun xs H Q => ∃ i, xs = [.int i] ∧ Q (.int (if i < 0 then -i else i)) H) (tCons (tVar 2) tNil)) (gName 3)) tNext)
        (tRet (tLst (tCons (tVar 3) (tCons (tOp (rI0 fun i j => .int (i + j)) (tOp (rI0 fun i j => .int (i + j)) (tOp (rI CMul fun i j => .int (i * j)) (tOp (rI (fun _ j => 0 < j) fun i j => .int (i % j)) (tVar 2) (tC (.int 1000000007))) (tC (.int 7))) (tOp (rI CMul fun i j => .int (i * j)) (tC (.int 1013)) (tVar 1))) (tC (.int 5))) tNil)))) { nx := fun _ H' => Q .non H', rt := Q } [some (.ref a), some (.int k), some (.int c), some (.int g)] H := by
      intro c g g0
      have fin2 : ∀ (g : Int), 0 ≤ g → tRet (tLst (tCons (tVar 3) (tCons (tOp (rI0 fun i j => .int (i + j)) (tOp (rI0 fun i j => .int (i + j)) (tOp (rI CMul fun i j => .int (i * j)) (tOp (rI (fun _ j => 0 < j) fun i j => .int (i % j)) (tVar 2) (tC (.int 1000000007))) (tC (.int 7))) (tOp (rI CMul fun i j => .int (i * j)) (tC (.int 1013)) (tVar 1))) (tC (.int 5))) tNil))) { nx := fun _ H' => Q .non H', rt := Q } [some (.ref a), some (.int k), some (.int c), some (.int g)] H := by
        intro g g0
        have m0 := Int.emod_nonneg c (show (1000000007 : Int) ≠ 0 by decide)
        have m1 := Int.emod_lt_of_pos c (show (0 : Int) < 1000000007 by decide)
        refine ⟨_, rfl, _, rfl, _, _, rfl, rfl, (by show (0 : Int) < 1000000007; decide), _, _, rfl, rfl, .inr ⟨by decide, by decide⟩, _, rfl, _, _, rfl, rfl, .inl ⟨by decide, by decide⟩, _, _, rfl, rfl, _, _, rfl, rfl, (by show 2 ≤ sizeLine; decide), fun p hp => ?_⟩
        exact q p g _ hp g0 (by omega) (by omega)
      refine ⟨_, rfl, _, rfl, _, _, rfl, rfl, ⟨by decide, by decide, by decide⟩, _, _, rfl, rfl, _, rfl, ite2 (fun e => ?_) (fun e => ?_)⟩
      · refine ⟨_, rfl, _, rfl, fin2 _ ?_⟩
        split <;> omega
      · exact fin2 g g0
    refine ⟨_, rfl, _, rfl, _, _, rfl, .inl hS, _, _, rfl, rfl, _, rfl, ite2 (fun e => ?_) (fun e => ?_)⟩
    · have lt : k < ((ns.map V.int).length : Int) := of_decide_eq_true e
      obtain ⟨j, rfl⟩ := Int.eq_ofNat_of_zero_le k0
      have hj : j < ns.length := by
        rw [List.length_map] at lt
        omega
      have g : (ns.map V.int)[j]? = some (.int ns[j]) := by
        rw [List.getElem?_map, List.getElem?_eq_getElem hj]
        rfl
      refine ⟨_, rfl, _, rfl, _, _, _, _, rfl, rfl, hS, atI_nat g, ?_⟩
      exact fin _ 0 (Int.le_refl _)
    · exact fin 0 0 (Int.le_refl _)
def spDraw : Sp := fun vs H Q _ => ∃ (b : Addr) (m : Int), vs = [.ref b, .int m] ∧ BagAt H b ∧ 0 < m ∧ m < 1000000 ∧
  ∀ (d : Int) (H' : Hp), 0 ≤ d → d < m → Bx b H H' → Q (.int d) H'
theorem ok_draw {A : Ad} (T : Txt K mg A) : FnOk P w K mg base CX0 1 A.a_draw A.d_draw P_draw spDraw := by
  refine T.F_draw.ok sc_draw (fun vs H Q E h => ?_) (fun cdv Ar outer s H vs Q E hr h => ?_)
  · obtain ⟨b, m, rfl, _⟩ := h
    rfl
  · obtain ⟨b, m, rfl, ⟨g, s, hb, g0, s0, s1⟩, m0, m1, q⟩ := h
    refine ⟨_, (pss_cons (ps_if (pt_cmpR op_gt (pe_ix (r := rIxL K) ix_list (pv 0) pe_int (fun _ _ => rfl)) pe_int (nomark _))
      (pss_cons (ps_set (i := 2) sc_draw.nd rfl (Or.inl rfl) (pe_op op_mod (pe_ix (r := rIxL K) ix_list (pv 0) pe_int (fun _ _ => rfl)) (pv 1)))
      (pss_cons (ps_asg (pe_op op_fdiv (pe_ix (r := rIxL K) ix_list (pv 0) pe_int (fun _ _ => rfl)) (pv 1)) (pg_sub (pv 0) pe_int set_list))
      (pss_one (ps_ret (pv 2))))) pss_nil)
      (pss_cons (ps_asg (pe_op op_mod (pe_op op_add (pe_op op_mul (pe_ix (r := rIxL K) ix_list (pv 0) pe_int (fun _ _ => rfl)) pe_int) pe_int) pe_int) (pg_sub (pv 0) pe_int set_list))
      (pss_one (ps_ret (pe_op op_mod (pe_op op_mod (pe_op op_pow (pe_op op_fdiv (pe_ix (r := rIxL K) ix_list (pv 0) pe_int (fun _ _ => rfl)) pe_int) pe_int) pe_int) (pv 1)))))), ?_⟩
    refine ⟨_, rfl, _, _, _, _, rfl, rfl, SqL.of hb, atI_nat (j := 0) rfl, _, _, rfl, rfl, _, rfl, ite2 (fun e => ?_) (fun e => ?_)⟩
    · refine ⟨_, rfl, _, _, _, _, rfl, rfl, SqL.of hb, atI_nat (j := 0) rfl, _, rfl, _, _, rfl, rfl, m0, ?_⟩
      refine ⟨_, rfl, _, _, _, _, rfl, rfl, SqL.of hb, atI_nat (j := 0) rfl, _, rfl, _, _, rfl, rfl, ⟨m0, by omega⟩, _, rfl, _, _, _, _, rfl, rfl, hb, Evl.ixN_nat (j := 0) (by show 0 < 2; decide), ?_⟩
      refine ⟨_, rfl, ?_⟩
      exact q _ _ (Int.emod_nonneg _ (by omega)) (Int.emod_lt_of_pos _ m0) (Bx.drawn (Int.ediv_nonneg g0 (by omega)) s0 s1)
    · have t0 := Int.emod_nonneg (s * 69621 + 1234567) (show (2147483647 : Int) ≠ 0 by decide)
      have t1 := Int.emod_lt_of_pos (s * 69621 + 1234567) (show (0 : Int) < 2147483647 by decide)
      refine ⟨_, rfl, _, _, _, _, rfl, rfl, SqL.of hb, atI_nat (j := 1) rfl, _, _, rfl, rfl, .inr ⟨by decide, by decide⟩, _, _, rfl, rfl, _, _, rfl, rfl, (by show (0 : Int) < 2147483647; decide), _, rfl, _, _, _, _, rfl, rfl, hb, Evl.ixN_nat (j := 1) (by show 1 < 2; decide), ?_⟩
      refine ⟨_, rfl, _, _, _, _, rfl, rfl, SqL.of upd_same, atI_nat (j := 1) rfl, _, _, rfl, rfl, ⟨by decide, by decide⟩, _, _, rfl, rfl, ⟨by decide, by decide, ?_⟩, _, _, rfl, rfl, (by show (0 : Int) < 998244353; decide), _, rfl, _, _, rfl, rfl, m0, ?_⟩
      · omega
      · exact q _ _ (Int.emod_nonneg _ (by omega)) (Int.emod_lt_of_pos _ m0) (Bx.drawn g0 t0 (by omega))

/-! ### a row is drawn -/
def RM (b : Addr) (m : Nat) (up : List Nat) (way : Int) (H : Hp) : L2.St → Hp → Prop := fun σ H' => ∃ (p : Addr) (l : List Nat) (y5 y6 y7 y8 y9 : Option V), σ = [some (.ref b), some (.int (m : Int)), some (.str (sOf up)), some (.int way), some (.ref p), y5, y6, y7, y8, y9] ∧ H' p = some (.lst (cells l)) ∧ H p = none ∧ l.length = m ∧ Row l ∧ Bx b H H'
def spRow : Sp := fun vs H Q _ => ∃ (b : Addr) (m : Nat) (up : List Nat) (x : Int), vs = [.ref b, .int x, .str (sOf up)] ∧ x = m ∧ BagAt H b ∧ 1 ≤ m ∧ m ≤ 1000 ∧ up.length = m ∧ Row up ∧ ∀ l H', l.length = m → Row l → Bx b H H' → Q (.str (sOf l)) H'
theorem ok_row {A : Ad} (T : Txt K mg A) : FnOk P w K mg base CX0 2 A.a_row A.d_row P_row spRow := by
  have G_draw := ok_draw (P := P) (w := w) (base := base) T
  refine T.F_row.ok sc_row (fun vs H Q E h => ?_) (fun cdv Ar outer s H vs Q E hr h => ?_)
  · obtain ⟨b, m, up, x, rfl, _⟩ := h
    rfl
  · obtain ⟨b, m, up, _, rfl, rfl, hb, m0, m1, lu, ru, q⟩ := h
    refine ⟨_, (pss_cons (ps_set (i := 3) sc_row.nd rfl (Or.inl rfl) (pe_call G_draw (hr.mono (by decide)) (by rfl) T.g_draw T.F_draw.kp T.b_draw .nil pass0 (pa_cons (pv 0) (pa_cons pe_int pa_nil))))
      (pss_cons (ps_set (i := 4) sc_row.nd rfl (Or.inl rfl) (pe_op op_rep (pe_lst (pa_cons (pe_ix ix_str pe_str (pe_call G_draw (hr.mono (by decide)) (by rfl) T.g_draw T.F_draw.kp T.b_draw .nil pass0 (pa_cons (pv 0) (pa_cons pe_int pa_nil))) (fun _ _ => rfl)) pa_nil)) (pv 1)))
      (Evl.pss_cut (ps_if (pt_cmpR op_eq (pv 3) pe_int (nomark _))
      (pss_one (ps_setLc (i := 4) (own := [("_law_place", 8)]) (g := gName 8) (tt := tYes) (by rfl) sc_row.nd rfl rfl (sw_true rfl rfl rfl (by decide +kernel)) (pi_range1 (by rfl) T.z_range (pa_cons (pv 1) pa_nil)) (blkOk_by (own := [("_law_place", 8)]) (N := N_row) (sc := defScope s_row) (by decide +kernel)) (fun _ _ _ _ _ => pg_name (i := 8) sc_row.nd rfl (Or.inl rfl)) (fun _ _ _ _ _ => pts_nil) (fun _ _ _ _ _ => (pe_ix ix_str pe_str (pe_call G_draw (hr.mono (by decide)) (by rfl) T.g_draw T.F_draw.kp T.b_draw .nil pass0 (pa_cons (pv 0) (pa_cons pe_int pa_nil))) (fun _ _ => rfl))))) pss_nil)
      (Evl.pss_cut (ps_if (pt_cmpR op_eq (pv 3) pe_int (nomark _))
      (pss_cons (ps_set (i := 5) sc_row.nd rfl (Or.inl rfl) (pe_op op_add pe_int (pe_call G_draw (hr.mono (by decide)) (by rfl) T.g_draw T.F_draw.kp T.b_draw .nil pass0 (pa_cons (pv 0) (pa_cons (pv 1) pa_nil)))))
      (pss_cons (ps_set (i := 6) sc_row.nd rfl (Or.inl rfl) (pe_call G_draw (hr.mono (by decide)) (by rfl) T.g_draw T.F_draw.kp T.b_draw .nil pass0 (pa_cons (pv 0) (pa_cons pe_int pa_nil))))
      (pss_cons (ps_set (i := 7) sc_row.nd rfl (Or.inl rfl) pe_int)
      (pss_one (ps_for PassesOwn.never rfl (pi_range1 (by rfl) T.z_range (pa_cons (pv 1) pa_nil)) (pg_name (i := 8) sc_row.nd rfl (Or.inl rfl))
      (Evl.pss_cut (ps_if (pt_cmpR op_eq (pv 7) pe_int (nomark _))
      (pss_cons (ps_set (i := 6) sc_row.nd rfl (Or.inl rfl) (pe_op op_sub pe_int (pv 6)))
      (pss_one (ps_set (i := 7) sc_row.nd rfl (Or.inl rfl) (pe_op op_add pe_int (pe_call G_draw (hr.mono (by decide)) (by rfl) T.g_draw T.F_draw.kp T.b_draw .nil pass0 (pa_cons (pv 0) (pa_cons (pv 5) pa_nil))))))) pss_nil)
      (pss_cons (ps_asg (pe_ix ix_str pe_str (pv 6) (fun _ _ => rfl)) (pg_sub (pv 4) (pv 8) set_list))
      (pss_one (ps_set (i := 7) sc_row.nd rfl (Or.inl rfl) (pe_op op_sub (pv 7) pe_int)))))))))) pss_nil)
      (Evl.pss_cut (ps_if (pt_cmpR op_eq (pv 3) pe_int (nomark _))
      (pss_cons (ps_set (i := 4) sc_row.nd rfl (Or.inl rfl) (pe_callTy (call_list_str rfl) (by rfl) T.z_list (by decide +kernel) (pa_cons (pv 2) pa_nil)))
      (pss_one (ps_for PassesOwn.never rfl (pi_range1 (by rfl) T.z_range (pa_cons pe_int pa_nil)) (pg_name (i := 9) sc_row.nd rfl (Or.inl rfl))
      (pss_one (ps_asg (pe_ix ix_str pe_str (pe_call G_draw (hr.mono (by decide)) (by rfl) T.g_draw T.F_draw.kp T.b_draw .nil pass0 (pa_cons (pv 0) (pa_cons pe_int pa_nil))) (fun _ _ => rfl)) (pg_sub (pv 4) (pe_call G_draw (hr.mono (by decide)) (by rfl) T.g_draw T.F_draw.kp T.b_draw .nil pass0 (pa_cons (pv 0) (pa_cons (pv 1) pa_nil))) set_list)))))) pss_nil)
      (pss_one (ps_ret (pe_join pe_str (pv 4))))))))), ?_⟩
    -- way, row_here
    refine ⟨_, rfl, b, 4, rfl, hb, by decide, by decide, fun way H1 w0 w1 bx1 => ?_⟩
    refine ⟨_, rfl, b, 2, rfl, bx1.1, by decide, by decide, fun d H2 d0 d1 bx2 => ⟨_, _, _, rfl, rfl, two_len, cell_at d0 d1, (by show 1 ≤ sizeLine; decide), fun p1 hp1 => ⟨_, rfl, _, _, _, rfl, rfl, upd_same, by omega, by omega, ?_, fun p hp => ?_⟩⟩⟩
    · show 1 * (m : Int).toNat ≤ sizeLine
      exact sz (by omega)
    have bx3 : Bx b H (upd H2 p1 (.lst [.str ⟨#[cellN d]⟩])) := (bx1.trans bx2).same (same_new hp1)
    have R0 : RM b m up way H [some (.ref b), some (.int (m : Int)), some (.str (sOf up)), some (.int way), some (.ref p), none, none, none, none, none] (upd (upd H2 p1 (.lst [.str ⟨#[cellN d]⟩])) p (.lst (List.replicate (m : Int).toNat [V.str ⟨#[cellN d]⟩]).flatten)) := by
      refine ⟨p, List.replicate m (cellN d), none, none, none, none, none, rfl, ?_, bx3.free hp, List.length_replicate, Row.rep (cellN_cell d), bx3.same (same_new hp)⟩
      rw [upd_same]
      exact congrArg (fun z => some (HO.lst z)) (rep_one m (cellN d))
    refine ⟨RM b m up way H, ?_, ?_⟩
    · -- way 0
      refine ⟨_, rfl, rfl, _, rfl, ite2 (fun e => ?_) (fun e => R0)⟩
      obtain ⟨_, _, _, _, _, _, _, _, _, _, _, _, bx4⟩ := R0
      refine ⟨_, rfl, _, rfl, by omega, by omega, fun D hD => lc_range (lo := 0) (n := m) (fun i H' => ∃ l, H' D = some (.lst (cells l)) ∧ l.length = i ∧ Row l ∧ Bx b H H') ⟨[], upd_same, rfl, Row.nil, bx4.same (same_new hD)⟩ ?_ ?_⟩
      · rintro i H' hi ⟨l, hl, ll, rl, bx5⟩
        have nD : D ≠ b := BagAt.ne bx4.1 hD
        have fD : H D = none := bx4.free hD
        refine ⟨rfl, _, rfl, b, 2, rfl, bx5.1, by decide, by decide, fun d2 H5 e0 e1 bx6 => ⟨_, _, _, rfl, rfl, two_len, cell_at e0 e1, _, bx6.2 _ _ nD hl, ?_, l ++ [cellN d2], ?_, ?_, rl.app (cellN_cell d2), (bx5.trans bx6).mut fD nD⟩⟩
        · rw [cells_len]
          exact szl (by omega)
        · rw [upd_same]
          exact congrArg (fun z => some (HO.lst z)) (cells_app l (cellN d2))
        · rw [List.length_append, ll]
          rfl
      · rintro H' ⟨l, hl, ll, rl, bx5⟩
        exact ⟨D, l, _, _, _, _, _, rfl, hl, bx4.free hD, ll, rl, bx5⟩
    · rintro σ H3 ⟨p, l, y5, y6, y7, y8, y9, rfl, hp, fp, ll, rl, bx⟩
      refine ⟨RM b m up way H, ?_, ?_⟩
      · -- way 1
        refine ⟨_, rfl, rfl, _, rfl, ite2 (fun e => ?_) (fun e => ⟨p, l, y5, y6, y7, y8, y9, rfl, hp, fp, ll, rl, bx⟩)⟩
        have nP : p ≠ b := BagAt.ne hb fp
        refine ⟨_, rfl, _, rfl, b, _, rfl, bx.1, by omega, by omega, fun most H4 o0 o1 bx4 => ⟨_, _, rfl, rfl, ?_⟩⟩
        refine ⟨_, rfl, b, 2, rfl, bx4.1, by decide, by decide, fun col H5 c0 c1 bx5 => ?_⟩
        refine ⟨_, rfl, _, rfl, by omega, by omega, for_range (lo := 0) (n := m) (fun i σ H' => ∃ (l : List Nat) (c left : Int) (y8 : Option V), σ = [some (.ref b), some (.int (m : Int)), some (.str (sOf up)), some (.int way), some (.ref p), some (.int (1 + most)), some (.int c), some (.int left), y8, y9] ∧ 0 ≤ c ∧ c < 2 ∧ H' p = some (.lst (cells l)) ∧ l.length = m ∧ Row l ∧ Bx b H H')
          ⟨l, col, 0, y8, rfl, c0, c1, bx5.2 _ _ nP (bx4.2 _ _ nP hp), ll, rl, (bx.trans bx4).trans bx5⟩ ?_ ?_⟩
        · rintro i σ H' hi ⟨l, c, left, y8, rfl, c0, c1, hp, ll, rl, bx⟩
          refine ⟨fun σ H' => ∃ (c left : Int) (y8 : Option V), σ = [some (.ref b), some (.int (m : Int)), some (.str (sOf up)), some (.int way), some (.ref p), some (.int (1 + most)), some (.int c), some (.int left), some (.int (0 + (i : Int))), y9] ∧ 0 ≤ c ∧ c < 2 ∧ H' p = some (.lst (cells l)) ∧ Bx b H H', ?_, ?_⟩
          · refine ⟨_, rfl, rfl, _, rfl, ite2 (fun e => ?_) (fun e => ⟨c, left, y8, rfl, c0, c1, hp, bx⟩)⟩
            refine ⟨_, rfl, _, _, rfl, rfl, ?_⟩
            refine ⟨_, rfl, _, rfl, b, _, rfl, bx.1, by omega, by omega, fun d H6 e0 e1 bx6 => ⟨_, _, rfl, rfl, ?_⟩⟩
            exact ⟨1 - c, 1 + d, y8, rfl, by omega, by omega, bx6.2 _ _ nP hp, bx.trans bx6⟩
          · rintro σ H' ⟨c, left, _, rfl, c0, c1, hp, bx⟩
            refine ⟨_, rfl, _, _, _, rfl, rfl, two_len, cell_at c0 c1, _, rfl, _, rfl, _, _, _, _, rfl, rfl, hp, (by rw [Int.zero_add]; exact Evl.ixN_nat (by rw [cells_len]; omega)), ?_⟩
            refine ⟨_, rfl, _, _, rfl, rfl, ?_⟩
            refine ⟨l.set i (cellN c), c, left - 1, some (.int (0 + (i : Int))), rfl, c0, c1, ?_, ?_, rl.set (cellN_cell c), bx.mut fp nP⟩
            · rw [upd_same]
              exact congrArg (fun z => some (HO.lst z)) (cells_set l i (cellN c))
            · rw [List.length_set]
              exact ll
        · rintro σ H' ⟨l, c, left, y8, rfl, c0, c1, hp, ll, rl, bx⟩
          exact ⟨p, l, _, _, _, _, _, rfl, hp, fp, ll, rl, bx⟩
      · rintro σ H3 ⟨p, l, y5, y6, y7, y8, y9, rfl, hp, fp, ll, rl, bx⟩
        refine ⟨RM b m up way H, ?_, ?_⟩
        · -- way 2
          refine ⟨_, rfl, rfl, _, rfl, ite2 (fun e => ?_) (fun e => ⟨p, l, y5, y6, y7, y8, y9, rfl, hp, fp, ll, rl, bx⟩)⟩
          refine ⟨_, rfl, up, rfl, by omega, fun p2 hp2 => ?_⟩
          have f2 : H p2 = none := bx.free hp2
          have n2 : p2 ≠ b := BagAt.ne bx.1 hp2
          refine ⟨_, rfl, by decide, by decide, for_range (lo := 0) (n := 3) (fun i σ H' => ∃ (l : List Nat) (y9 : Option V), σ = [some (.ref b), some (.int (m : Int)), some (.str (sOf up)), some (.int way), some (.ref p2), y5, y6, y7, y8, y9] ∧ H' p2 = some (.lst (cells l)) ∧ l.length = m ∧ Row l ∧ Bx b H H')
            ⟨up, y9, rfl, upd_same, lu, ru, bx.same (same_new hp2)⟩ ?_ ?_⟩
          · rintro i σ H' hi ⟨l, y9, rfl, hp, ll, rl, bx⟩
            refine ⟨_, rfl, b, 2, rfl, bx.1, by decide, by decide, fun d H5 d0 d1 bx5 => ⟨_, _, _, rfl, rfl, two_len, cell_at d0 d1, _, rfl, _, rfl, _, rfl, b, _, rfl, bx5.1, by omega, by omega, fun j H6 j0 j1 bx6 => ?_⟩⟩
            obtain ⟨k, rfl⟩ := Int.eq_ofNat_of_zero_le j0
            refine ⟨_, _, _, k, rfl, rfl, bx6.2 _ _ n2 (bx5.2 _ _ n2 hp), Evl.ixN_nat (by rw [cells_len]; omega), ?_⟩
            refine ⟨l.set k (cellN d), _, rfl, ?_, ?_, rl.set (cellN_cell d), ((bx.trans bx5).trans bx6).mut f2 n2⟩
            · rw [upd_same]
              exact congrArg (fun z => some (HO.lst z)) (cells_set l k (cellN d))
            · rw [List.length_set]
              exact ll
          · rintro σ H' ⟨l, y9, rfl, hp, ll, rl, bx⟩
            exact ⟨p2, l, _, _, _, _, _, rfl, hp, f2, ll, rl, bx⟩
        · rintro σ H3 ⟨p, l, y5, y6, y7, y8, y9, rfl, hp, fp, ll, rl, bx⟩
          refine ⟨⟨_, rfl⟩, _, rfl, _, _, l.map fun c => sOf [c], rfl, rfl, .inl (SqL.of (by rw [← cells_strs]; exact hp)), join_size (by omega), ?_⟩
          rw [join_cells]
          exact q l H3 ll rl bx

/-! ### a page is drawn -/
def Good (n : Nat) (rows : List (List Nat)) : Prop := ∀ r ∈ rows, r.length = n ∧ Row r
theorem Good.app {n : Nat} {rows : List (List Nat)} {l : List Nat} (h : Good n rows) (ll : l.length = n) (rl : Row l) : Good n (rows ++ [l]) := fun r hr => by
  rcases List.mem_append.mp hr with e | e
  · exact h r e
  · rw [List.mem_singleton.mp e]
    exact ⟨ll, rl⟩
def spPage : Sp := fun vs H Q _ => ∃ (b : Addr) (mc mr : Nat), vs = [.ref b, .int mc, .int mr] ∧ BagAt H b ∧ 8 ≤ mc ∧ mc ≤ 64 ∧ 1 ≤ mr ∧ mr ≤ 24 ∧
  ∀ (p : Addr) (rows : List (List Nat)) (n : Nat) (H' : Hp), 8 ≤ n → n ≤ mc → 1 ≤ rows.length → rows.length ≤ mr → Good n rows → H p = none → H' p = some (.tup (rows.map sV)) → Bx b H H' → Q (.ref p) H'
theorem last_of {α : Type} {xs : List α} {n : Nat} (h : xs.length = n + 1) : ∃ ys y, xs = ys ++ [y] := by
  have h0 : xs ≠ [] := fun e => by
    rw [e] at h
    cases h
  exact ⟨xs.dropLast, xs.getLast h0, (List.dropLast_concat_getLast h0).symm⟩
theorem ok_page {A : Ad} (T : Txt K mg A) : FnOk P w K mg base CX0 3 A.a_page A.d_page P_page spPage := by
  have G_draw := ok_draw (P := P) (w := w) (base := base) T
  have G_row := ok_row (P := P) (w := w) (base := base) T
  refine T.F_page.ok sc_page (fun vs H Q E h => ?_) (fun cdv Ar outer s H vs Q E hr h => ?_)
  · obtain ⟨b, mc, mr, rfl, _⟩ := h
    rfl
  · obtain ⟨b, mc, mr, rfl, hb, c0, c1, r0, r1, q⟩ := h
    refine ⟨_, (pss_cons (ps_set (i := 3) sc_page.nd rfl (Or.inl rfl) (pe_op op_add pe_int (pe_call G_draw (hr.mono (by decide)) (by rfl) T.g_draw T.F_draw.kp T.b_draw .nil pass0 (pa_cons (pv 0) (pa_cons (pe_op op_sub (pv 1) pe_int) pa_nil)))))
      (pss_cons (ps_set (i := 4) sc_page.nd rfl (Or.inl rfl) (pe_op op_add pe_int (pe_call G_draw (hr.mono (by decide)) (by rfl) T.g_draw T.F_draw.kp T.b_draw .nil pass0 (pa_cons (pv 0) (pa_cons (pv 2) pa_nil)))))
      (Evl.pss_cut (ps_if (pt_cmpR op_eq (pe_call G_draw (hr.mono (by decide)) (by rfl) T.g_draw T.F_draw.kp T.b_draw .nil pass0 (pa_cons (pv 0) (pa_cons pe_int pa_nil))) pe_int (nomark _))
      (pss_one (ps_par (i := 3) (j := 4) (by rfl) sc_page.nd rfl rfl (by decide) rfl rfl (pa_cons (pv 1) (pa_cons (pv 2) pa_nil)) (by rfl))) pss_nil)
      (pss_cons (ps_set (i := 5) sc_page.nd rfl (Or.inl rfl) (pe_lst (pa_cons (pe_op op_mul_str pe_str (pv 3)) pa_nil)))
      (Evl.pss_cut (ps_for PassesOwn.never rfl (pi_range1 (by rfl) T.z_range (pa_cons (pv 4) pa_nil)) (pg_name (i := 6) sc_page.nd rfl (Or.inl rfl))
      (pss_one (ps_expr (pe_bm PySem.F.plainAttrs_list PySem.F.slot_list_append PySem.F.type_list_append mt_append (pv 5) (pa_cons (pe_call G_row (hr.mono (by decide)) (by rfl) T.g_row T.F_row.kp T.b_row .nil pass0 (pa_cons (pv 0) (pa_cons (pv 3) (pa_cons (pe_ix (r := rIxL K) ix_list (pv 5) (pe_un un_neg pe_int) (fun _ _ => rfl)) pa_nil)))) pa_nil)))))
      (pss_one (ps_ret (pe_callTy call_tuple_of (by rfl) T.z_tuple (by decide +kernel) (pa_cons (pe_slice sl_list (pv 5) (po_some pe_int) po_none) pa_nil))))))))), ?_⟩
    refine ⟨_, rfl, _, rfl, _, _, rfl, rfl, b, _, rfl, hb, by omega, by omega, fun d1 H1 a0 a1 bx1 => ⟨_, _, rfl, rfl, ?_⟩⟩
    refine ⟨_, rfl, _, rfl, b, _, rfl, bx1.1, by omega, by omega, fun d2 H2 e0 e1 bx2 => ⟨_, _, rfl, rfl, ?_⟩⟩
    refine ⟨fun σ H' => ∃ (n many : Nat), σ = [some (.ref b), some (.int mc), some (.int mr), some (.int n), some (.int many), none, none] ∧ 8 ≤ n ∧ n ≤ mc ∧ 1 ≤ many ∧ many ≤ mr ∧ Bx b H H', ?_, ?_⟩
    · refine ⟨_, rfl, b, 8, rfl, bx2.1, by decide, by decide, fun d3 H3 f0 f1 bx3 => ⟨rfl, _, rfl, ite2 (fun e => ?_) (fun e => ?_)⟩⟩
      · exact ⟨_, rfl, _, rfl, _, _, rfl, mc, mr, rfl, c0, Nat.le_refl _, r0, Nat.le_refl _, (bx1.trans bx2).trans bx3⟩
      · obtain ⟨n, en⟩ := Int.eq_ofNat_of_zero_le (show 0 ≤ 8 + d1 by omega)
        obtain ⟨m, em⟩ := Int.eq_ofNat_of_zero_le (show 0 ≤ 1 + d2 by omega)
        exact ⟨n, m, by rw [← en, ← em]; rfl, by omega, by omega, by omega, by omega, (bx1.trans bx2).trans bx3⟩
    · rintro σ H4 ⟨n, many, rfl, n0, n1, m0, m1, bx4⟩
      refine ⟨_, rfl, 46, _, rfl, rfl, ⟨by omega, by omega⟩, (by show 1 ≤ sizeLine; decide), fun p hp => ?_⟩
      have fp : H p = none := bx4.free hp
      have np : p ≠ b := BagAt.ne bx4.1 hp
      refine ⟨fun σ H' => ∃ (rows : List (List Nat)) (y6 : Option V), σ = [some (.ref b), some (.int mc), some (.int mr), some (.int n), some (.int many), some (.ref p), y6] ∧ H' p = some (.lst (rows.map sV)) ∧ rows.length = many + 1 ∧ Good n rows ∧ Bx b H H', ?_, ?_⟩
      · refine ⟨_, rfl, _, rfl, by omega, by omega, for_range (lo := 0) (n := many) (fun i σ H' => ∃ (rows : List (List Nat)) (y6 : Option V), σ = [some (.ref b), some (.int mc), some (.int mr), some (.int n), some (.int many), some (.ref p), y6] ∧ H' p = some (.lst (rows.map sV)) ∧ rows.length = i + 1 ∧ Good n rows ∧ Bx b H H')
          ⟨[List.replicate n 46], none, rfl, upd_same, rfl, fun r hr => by rw [List.mem_singleton.mp hr]; exact ⟨List.length_replicate, Row.rep (.inl rfl)⟩, bx4.same (same_new hp)⟩ ?_ (fun σ H' h => h)⟩
        rintro i σ H5 hi ⟨rows, y6, rfl, h5, lr, gr, bx5⟩
        obtain ⟨ys, y, rfl⟩ := last_of lr
        have gy := gr y (List.mem_append.mpr (.inr (List.mem_singleton.mpr rfl)))
        refine ⟨_, rfl, .inl ⟨rfl, _, SqL.of h5⟩, _, rfl, _, rfl, _, rfl, 1, rfl, _, _, _, sV y, rfl, rfl, SqL.of h5, ?_, b, n, y, _, rfl, rfl, bx5.1, by omega, by omega, gy.1, gy.2, fun l H6 ll rl bx6 => ?_⟩
        · rw [List.map_append]
          exact atI_last _ _
        · refine ⟨_, _, _, rfl, rfl, bx6.2 _ _ np h5, ?_, ys ++ [y] ++ [l], _, rfl, ?_, ?_, gr.app ll rl, (bx5.trans bx6).mut fp np⟩
          · rw [List.length_map, lr]
            exact szl (by omega)
          · rw [upd_same, List.map_append (l₂ := [l])]
            rfl
          · rw [List.length_append, lr]
            rfl
      · rintro σ H5 ⟨rows, y6, rfl, h5, lr, gr, bx5⟩
        refine ⟨_, rfl, 1, rfl, _, _, rfl, SqL.of h5, fun c hc => ⟨_, _, rfl, .inl ⟨SqL.of upd_same, fun t ht => ?_⟩⟩⟩
        have s6 : Same H5 (upd H5 c (.lst (cutV (rows.map sV) (some 1) none))) := same_new hc
        have bx6 := (bx5.same s6).same (same_new (o := .tup (cutV (rows.map sV) (some 1) none)) ht)
        refine q t (rows.drop 1) n _ n0 n1 ?_ ?_ (fun r hr => gr r (List.mem_of_mem_drop hr)) ((bx5.same s6).free ht) ?_ bx6
        · rw [List.length_drop]
          omega
        · rw [List.length_drop]
          omega
        · rw [upd_same, cut1, List.map_drop]

/-! ### rows and pages told of things -/
inductive Kd where
  | txt (z : Str)
  | oth (t : String)
def okC (c : Nat) : Bool := c == 46 || c == 35
def isRowK : Kd → Bool
  | .txt z => decide (8 ≤ z.length) && decide (z.length ≤ 64) && z.cps.toList.all okC
  | .oth _ => false
theorem isRowK_txt (z : Str) : isRowK (.txt z) = (decide (8 ≤ z.length) && decide (z.length ≤ 64) && z.cps.toList.all okC) := rfl
def kLen : Kd → Nat
  | .txt z => z.length
  | .oth _ => 0
def Is1 (K : PySem.W.Frag) (H : Hp) (v : V) : Kd → Prop
  | .txt z => v = .str z ∧ z.length ≤ 100000
  | .oth t => TyOf K H v (.type t) ∧ t ∈ ["NoneType", "bool", "int", "list", "tuple"]
def len0 (ks : List Kd) : Nat := kLen (ks.headD (.oth ""))
def isPageK (ks : List Kd) : Bool := decide (1 ≤ ks.length) && decide (ks.length ≤ 24) && ks.all isRowK && ks.all fun k => decide (kLen k = len0 ks)
def IsP (K : PySem.W.Frag) (H : Hp) (v : V) : Option (List Kd) → Prop
  | none => ∃ t, TyOf K H v (.type t) ∧ t ∈ ["NoneType", "bool", "int", "list", "str"]
  | some ks => ∃ a xs, v = .ref a ∧ H a = some (.tup xs) ∧ xs.length ≤ 1000 ∧ Paired (Is1 K H) xs ks
def isPageO : Option (List Kd) → Bool
  | none => false
  | some ks => isPageK ks
theorem isPageO_some (ks : List Kd) : isPageO (some ks) = (decide (1 ≤ ks.length) && decide (ks.length ≤ 24) && ks.all isRowK && ks.all fun k => decide (kLen k = len0 ks)) := rfl
theorem tyOf_same {H H' : Hp} {v : V} {t : String} (e : Same H H') (h : TyOf K H v (.type t)) : TyOf K H' v (.type t) := by
  cases h with
  | non => exact .non
  | bl x => exact .bl x
  | int i => exact .int i
  | str x => exact .str x
  | flt x => exact .flt x
  | lst h => exact .lst (e _ _ h)
  | frz h => exact .frz (e _ _ h)
  | tup h => exact .tup (e _ _ h)
  | dK h => exact .dK (e _ _ h)
  | dT h => exact .dT (e _ _ h)
theorem is1_same {H H' : Hp} {v : V} {k : Kd} (e : Same H H') (h : Is1 K H v k) : Is1 K H' v k := by
  cases k with
  | txt z => exact h
  | oth t => exact ⟨tyOf_same e h.1, h.2⟩
theorem pair_same {H H' : Hp} (e : Same H H') : ∀ {xs : List V} {ks : List Kd}, Paired (Is1 K H) xs ks → Paired (Is1 K H') xs ks
  | _, _, .nil => .nil
  | _, _, .cons h r => .cons (is1_same e h) (pair_same e r)
theorem pair_get {H : Hp} : ∀ {xs : List V} {ks : List Kd} {i : Nat} {x : V}, Paired (Is1 K H) xs ks → xs[i]? = some x → ∃ k, ks[i]? = some k ∧ Is1 K H x k
  | _, _, i, x, .nil, h => by simp at h
  | _, _, 0, x, .cons a r, h => ⟨_, rfl, by
    have e := Option.some.inj h
    rw [← e]
    exact a⟩
  | _, _, i + 1, x, .cons a r, h => pair_get (i := i) r h
theorem isS_no {t : String} (h : t ∈ ["NoneType", "bool", "int", "list", "tuple"]) : PySem.W.kitOne K (.type t) (.type "str") = some false := by
  have : ∀ t ∈ ["NoneType", "bool", "int", "list", "tuple"], kitB t "str" = some false := by decide +kernel
  exact kit_ty (this t h)
theorem isT_no {t : String} (h : t ∈ ["NoneType", "bool", "int", "list", "str"]) : PySem.W.kitOne K (.type t) (.type "tuple") = some false := by
  have : ∀ t ∈ ["NoneType", "bool", "int", "list", "str"], kitB t "tuple" = some false := by decide +kernel
  exact kit_ty (this t h)
theorem isS_yes : PySem.W.kitOne K (.type "str") (.type "str") = some true := kit_ty (by decide +kernel)
theorem isT_yes : PySem.W.kitOne K (.type "tuple") (.type "tuple") = some true := kit_ty (by decide +kernel)
def spIsRow (K : PySem.W.Frag) : Sp := fun vs H Q _ => ∃ (v : V) (k : Kd), vs = [v] ∧ Is1 K H v k ∧ ∀ H', Same H H' → Q (.bl (isRowK k)) H'
theorem inV_cell (c : Nat) : inV (.str ⟨#[c]⟩) [.str (Str.ofString "."), .str (Str.ofString "#")] = okC c := by
  have e1 : eqV (.str (Str.ofString ".")) (.str ⟨#[c]⟩) = (c == 46) := by
    show decide (sOf [46] = sOf [c]) = (c == 46)
    rw [Bool.eq_iff_iff, decide_eq_true_eq, beq_iff_eq]
    exact ⟨fun h => by have := sOf_inj h; simp_all, fun h => by rw [h]⟩
  have e2 : eqV (.str (Str.ofString "#")) (.str ⟨#[c]⟩) = (c == 35) := by
    show decide (sOf [35] = sOf [c]) = (c == 35)
    rw [Bool.eq_iff_iff, decide_eq_true_eq, beq_iff_eq]
    exact ⟨fun h => by have := sOf_inj h; simp_all, fun h => by rw [h]⟩
  show (eqV (.str (Str.ofString ".")) (.str ⟨#[c]⟩) || (eqV (.str (Str.ofString "#")) (.str ⟨#[c]⟩) || false)) = okC c
  rw [e1, e2, Bool.or_false]
  rfl
theorem cps_get {z : Str} {i c : Nat} (h : z.cps[i]? = some c) : z.cps.toList[i]? = some c := by simpa using h
theorem ok_is_row {A : Ad} (T : Txt K mg A) : FnOk P w K mg base CX0 1 A.a_is_row A.d_is_row P_is_row (spIsRow K) := by
  refine T.F_is_row.ok sc_is_row (fun vs H Q E h => ?_) (fun cdv Ar outer s H vs Q E hr h => ?_)
  · obtain ⟨v, k, rfl, _⟩ := h
    rfl
  · obtain ⟨v, k, rfl, hk, q⟩ := h
    refine ⟨_, (pss_cons (ps_if (pt_not (pt_val (pe_callB (r := rIsi K) call_isi (by rfl) T.z_isinstance (by decide +kernel) (pa_cons (pv 0) (pa_cons (pe_bltn (v := .ty "str") (by rfl) T.z_str (by decide +kernel) rfl) pa_nil)))))
      (pss_one (ps_ret pe_bl)) pss_nil)
      (pss_cons (ps_if (pt_not (pt_chain op_le op_le (pe_glob (v := .int 8) (by rfl) T.c_LEAST_BREADTH ⟨_, rfl⟩) (pe_callB call_len_str (by rfl) T.z_len PySem.boot_len (pa_cons (pv 0) pa_nil)) (pe_glob (v := .int 64) (by rfl) T.c_MOST_BREADTH ⟨_, rfl⟩)))
      (pss_one (ps_ret pe_bl)) pss_nil)
      (pss_one (ps_ret (pe_callB (cr_all rfl) (by rfl) T.z_all (by decide +kernel) (pa_cons (pe_lc (own := [("cell", 1)]) (g := gName 1) (tt := tYes) (by rfl) sc_is_row.nd (pi_str (pv 0)) (blkOk_by (own := [("cell", 1)]) (N := N_is_row) (sc := defScope s_is_row) (by decide +kernel)) (fun _ _ _ _ _ => pg_name (i := 1) sc_is_row.nd rfl (Or.inl rfl)) (fun _ _ _ _ _ => pts_nil) (fun _ _ _ _ _ => (pe_cmpR (r := rIn K false) op_in_seq (pv 1) (pe_tup (pa_cons (pe_glob (v := .str (Str.ofString ".")) (by rfl) T.c_LIGHT ⟨_, rfl⟩) (pa_cons (pe_glob (v := .str (Str.ofString "#")) (by rfl) T.c_DARK ⟨_, rfl⟩) pa_nil))) (by rfl)))) pa_nil)))))), ?_⟩
    cases k with
    | oth t =>
      refine ⟨_, rfl, _, _, _, _, false, rfl, ClsV.ty _, TyX.base hk.1, isS_no hk.2, _, rfl, ?_⟩
      exact q H (Same.refl H)
    | txt z =>
      obtain ⟨rfl, hz⟩ := hk
      have hl : z.length ≤ sizeLine := sz hz
      refine ⟨_, rfl, _, _, _, _, true, rfl, ClsV.ty _, TyX.base (.str _), isS_yes, _, rfl, ?_⟩
      refine ⟨_, rfl, _, rfl, hl, _, _, rfl, rfl, _, rfl, ite2 (fun e => ?_) (fun e => ?_)⟩
      · have e8 : 8 ≤ z.length := by
          have := of_decide_eq_true e
          omega
        refine ⟨_, _, rfl, rfl, _, rfl, ?_⟩
        by_cases h64 : z.length ≤ 64
        · have d64 : decide ((z.length : Int) ≤ 64) = true := decide_eq_true (by omega)
          rw [d64]
          refine ⟨_, rfl, _, rfl, fun D hD => lc_it (walk_str (z := z)) (fun i H' => Same H H' ∧ H' D = some (.lst ((z.cps.toList.take i).map fun c => V.bl (okC c)))) ⟨same_new hD, upd_same⟩ (fun _ _ _ _ => trivial) ?_ ?_⟩
          · rintro i x H1 H2 hi ⟨sm, hD1⟩ ⟨rfl, c, hc, rfl⟩
            refine ⟨rfl, _, rfl, (by show 2 ≤ sizeLine; decide), fun p hp => ⟨p, _, rfl, .inr (.inl (.inl upd_same)), rfl, rfl, ?_⟩⟩
            have nD : D ≠ p := ne_of_none hD1 hp
            refine ⟨_, by rw [upd_ne nD]; exact hD1, ?_, Same.mut (sm.trans (same_new hp)) hD, ?_⟩
            · rw [List.length_map, List.length_take]
              have hi' : i < z.length := hi
              exact szl (by omega)
            · rw [upd_same, take_more z.cps.toList i c (cps_get hc), List.map_append]
              show some (HO.lst (_ ++ [V.bl (inV (.str ⟨#[c]⟩) [.str (Str.ofString "."), .str (Str.ofString "#")])])) = _
              rw [inV_cell]
              rfl
          · rintro H1 ⟨sm, hD1⟩
            have et : z.cps.toList.take z.cps.size = z.cps.toList := List.take_of_length_le (by rw [Array.length_toList]; exact Nat.le_refl _)
            rw [et] at hD1
            refine ⟨_, z.cps.toList.map okC, rfl, SqL.of (by rw [List.map_map]; exact hD1), ?_⟩
            have h2 := q H1 sm
            rw [isRowK_txt] at h2
            rw [decide_eq_true e8, decide_eq_true h64, Bool.true_and, Bool.true_and] at h2
            rw [List.all_map]
            exact h2
        · have d64 : decide ((z.length : Int) ≤ 64) = false := decide_eq_false (by omega)
          rw [d64]
          have h2 := q H (Same.refl H)
          rw [isRowK_txt] at h2
          rw [decide_eq_false h64, Bool.and_false, Bool.false_and] at h2
          exact h2
      · have e8 : ¬ 8 ≤ z.length := fun n => e (decide_eq_true (by omega))
        refine ⟨_, rfl, ?_⟩
        have h2 := q H (Same.refl H)
        rw [isRowK_txt] at h2
        rw [decide_eq_false e8, Bool.false_and, Bool.false_and] at h2
        exact h2
def spLawIsRow (K : PySem.W.Frag) : Sp := fun vs H Q _ => ∃ (v : V) (k : Kd), vs = [v] ∧ Is1 K H v k ∧ Q (.bl (isRowK k)) H
theorem ne_sign (c d : Nat) : (!decide (V.str ⟨#[c]⟩ = V.str (sOf [d]))) = !(c == d) := by
  congr 1
  rw [Bool.eq_iff_iff, decide_eq_true_eq, beq_iff_eq]
  exact ⟨fun h => by
    have h2 : sOf [c] = sOf [d] := V.str.inj h
    have := sOf_inj h2
    simp_all, fun h => by rw [h]; rfl⟩
theorem ok_is_row_l {A : Ad} (T : Txt K mg A) : FnOk P w K mg base CX0 1 A.a_is_row_l A.d_is_row_l P_is_row_l (spLawIsRow K) := by
  refine T.F_is_row_l.ok sc_is_row_l (fun vs H Q E h => ?_) (fun cdv Ar outer s H vs Q E hr h => ?_)
  · obtain ⟨v, k, rfl, _⟩ := h
    rfl
  · obtain ⟨v, k, rfl, hk, q⟩ := h
    refine ⟨_, (pss_cons (ps_if (PW.pt (pw_or (pt_not (pt_val (pe_callB (r := rIsi K) call_isi (by rfl) T.z_isinstance (by decide +kernel) (pa_cons (pv 0) (pa_cons (pe_bltn (v := .ty "str") (by rfl) T.z_str (by decide +kernel) rfl) pa_nil))))) (pw_or (pt_cmpR op_lt (pe_callB call_len_str (by rfl) T.z_len PySem.boot_len (pa_cons (pv 0) pa_nil)) pe_int (nomark _)) (pw_or1 (pt_cmpR op_gt (pe_callB call_len_str (by rfl) T.z_len PySem.boot_len (pa_cons (pv 0) pa_nil)) pe_int (nomark _))))))
      (pss_one (ps_ret pe_bl)) pss_nil)
      (pss_cons (ps_for PassesOwn.never rfl (pi_str (pv 0)) (pg_name (i := 1) sc_is_row_l.nd rfl (Or.inl rfl))
      (pss_one (ps_if (PW.pt (pw_and (pt_cmpR op_ne (pv 1) pe_str (nomark _)) (pw_and1 (pt_cmpR op_ne (pv 1) pe_str (nomark _)))))
      (pss_one (ps_ret pe_bl)) pss_nil)))
      (pss_one (ps_ret pe_bl)))), ?_⟩
    cases k with
    | oth t =>
      refine ⟨_, rfl, _, _, _, _, false, rfl, ClsV.ty _, TyX.base hk.1, isS_no hk.2, _, rfl, ?_⟩
      exact q
    | txt z =>
      obtain ⟨rfl, hz⟩ := hk
      have hl : z.length ≤ sizeLine := sz hz
      refine ⟨_, rfl, _, _, _, _, true, rfl, ClsV.ty _, TyX.base (.str _), isS_yes, _, rfl, ?_⟩
      refine ⟨_, rfl, _, rfl, hl, _, _, rfl, rfl, _, rfl, ite2 (fun e => ?_) (fun e => ?_)⟩
      · have e8 : ¬ 8 ≤ z.length := by
          have := of_decide_eq_true e
          omega
        rw [isRowK_txt] at q
        rw [decide_eq_false e8, Bool.false_and, Bool.false_and] at q
        exact q
      · have e8 : 8 ≤ z.length := Nat.not_lt.mp fun n => e (decide_eq_true (by omega))
        refine ⟨_, rfl, _, rfl, hl, _, _, rfl, rfl, _, rfl, ite2 (fun e2 => ?_) (fun e2 => ?_)⟩
        · have h64 : ¬ z.length ≤ 64 := by
            have := of_decide_eq_true e2
            omega
          rw [isRowK_txt] at q
          rw [decide_eq_false h64, Bool.and_false, Bool.false_and] at q
          exact q
        · have h64 : z.length ≤ 64 := Nat.not_lt.mp fun n => e2 (decide_eq_true (by omega))
          rw [isRowK_txt] at q
          rw [decide_eq_true e8, decide_eq_true h64, Bool.true_and, Bool.true_and] at q
          refine ⟨_, rfl, _, rfl, for_it (walk_str (z := z)) (fun i σ H' => ∃ y1, σ = [some (.str z), y1] ∧ H' = H ∧ (z.cps.toList.take i).all okC = true) ⟨none, rfl, rfl, rfl⟩ (fun _ _ _ _ _ => trivial) ?_ ?_⟩
          · rintro i x σ H1 H2 hi ⟨y1, rfl, rfl, hall⟩ ⟨rfl, c, hc, rfl⟩
            have hc' := cps_get hc
            refine ⟨_, rfl, rfl, _, rfl, ?_⟩
            rw [show (!decide (V.str ⟨#[c]⟩ = V.str (Str.ofString "."))) = !(c == 46) from ne_sign c 46]
            have bad : okC c = false → z.cps.toList.all okC = false := fun h => by
              rw [← Bool.not_eq_true]
              intro h3
              rw [List.all_eq_true] at h3
              rw [h3 c (List.mem_of_getElem? hc')] at h
              cases h
            have more : okC c = true → (z.cps.toList.take (i + 1)).all okC = true := fun h => by
              rw [take_more z.cps.toList i c hc', List.all_append, hall]
              simp [h]
            cases h46 : (c == 46) with
            | true => exact ⟨_, rfl, rfl, more (by unfold okC; rw [h46]; rfl)⟩
            | false =>
              refine ⟨_, rfl, rfl, _, rfl, ?_⟩
              rw [show (!decide (V.str ⟨#[c]⟩ = V.str (Str.ofString "#"))) = !(c == 35) from ne_sign c 35]
              cases h35 : (c == 35) with
              | true => exact ⟨_, rfl, rfl, more (by unfold okC; rw [h46, h35]; rfl)⟩
              | false =>
                rw [bad (by unfold okC; rw [h46, h35]; rfl)] at q
                exact q
          · rintro σ H1 ⟨y1, rfl, rfl, hall⟩
            rw [List.take_of_length_le (by rw [Array.length_toList]; exact Nat.le_refl _)] at hall
            rw [hall] at q
            exact q
def spIsPage (K : PySem.W.Frag) : Sp := fun vs H Q _ => ∃ (v : V) (o : Option (List Kd)), vs = [v] ∧ IsP K H v o ∧ ∀ H', Same H H' → Q (.bl (isPageO o)) H'
theorem txt_of {H : Hp} {v : V} {k : Kd} (h : Is1 K H v k) (r : isRowK k = true) : ∃ z, k = .txt z ∧ v = .str z ∧ z.length ≤ 100000 := by
  cases k with
  | txt z => exact ⟨z, rfl, h.1, h.2⟩
  | oth t => cases r
theorem ok_is_page {A : Ad} (T : Txt K mg A) : FnOk P w K mg base CX0 2 A.a_is_page A.d_is_page P_is_page (spIsPage K) := by
  have G_is_row := ok_is_row (P := P) (w := w) (base := base) T
  refine T.F_is_page.ok sc_is_page (fun vs H Q E h => ?_) (fun cdv Ar outer s H vs Q E hr h => ?_)
  · obtain ⟨v, o, rfl, _⟩ := h
    rfl
  · obtain ⟨v, o, rfl, hk, q⟩ := h
    refine ⟨_, (pss_cons (ps_if (pt_not (pt_val (pe_callB (r := rIsi K) call_isi (by rfl) T.z_isinstance (by decide +kernel) (pa_cons (pv 0) (pa_cons (pe_bltn (v := .ty "tuple") (by rfl) T.z_tuple (by decide +kernel) rfl) pa_nil)))))
      (pss_one (ps_ret pe_bl)) pss_nil)
      (pss_cons (ps_if (pt_not (pt_chain op_le op_le pe_int (pe_callB (r := fun xs H Q => ∃ p ys, xs = [.ref p] ∧ (SqL K H p ys ∨ SqT K H p ys) ∧ Q (.int ys.length) H) call_len_seq (by rfl) T.z_len PySem.boot_len (pa_cons (pv 0) pa_nil)) (pe_glob (v := .int 24) (by rfl) T.c_MOST_ROWS ⟨_, rfl⟩)))
      (pss_one (ps_ret pe_bl)) pss_nil)
      (pss_cons (ps_if (pt_not (pt_val (pe_callB (cr_all rfl) (by rfl) T.z_all (by decide +kernel) (pa_cons (pe_lc (own := [("row", 1)]) (g := gName 1) (tt := tYes) (by rfl) sc_is_page.nd (pi_tup (pv 0)) (blkOk_by (own := [("row", 1)]) (N := N_is_page) (sc := defScope s_is_page) (by decide +kernel)) (fun _ _ _ _ _ => pg_name (i := 1) sc_is_page.nd rfl (Or.inl rfl)) (fun _ _ _ _ _ => pts_nil) (fun _ _ _ _ _ => (pe_call G_is_row (hr.mono (by decide)) (by rfl) T.g_is_row T.F_is_row.kp T.b_is_row .nil pass0 (pa_cons (pv 1) pa_nil)))) pa_nil))))
      (pss_one (ps_ret pe_bl)) pss_nil)
      (pss_one (ps_ret (pe_callB (cr_all rfl) (by rfl) T.z_all (by decide +kernel) (pa_cons (pe_lc (own := [("row", 1)]) (g := gName 1) (tt := tYes) (by rfl) sc_is_page.nd (pi_tup (pv 0)) (blkOk_by (own := [("row", 1)]) (N := N_is_page) (sc := defScope s_is_page) (by decide +kernel)) (fun _ _ _ _ _ => pg_name (i := 1) sc_is_page.nd rfl (Or.inl rfl)) (fun _ _ _ _ _ => pts_nil) (fun _ _ _ _ _ => (pe_cmpR op_eq (pe_callB call_len_str (by rfl) T.z_len PySem.boot_len (pa_cons (pv 1) pa_nil)) (pe_callB call_len_str (by rfl) T.z_len PySem.boot_len (pa_cons (pe_ix (r := rIxT K) ix_tup (pv 0) pe_int (fun _ _ => rfl)) pa_nil)) (nomark _)))) pa_nil))))))), ?_⟩
    cases o with
    | none =>
      obtain ⟨t, ht, hm⟩ := hk
      refine ⟨_, rfl, _, _, _, _, false, rfl, ClsV.ty _, TyX.base ht, isT_no hm, _, rfl, ?_⟩
      exact q H (Same.refl H)
    | some ks =>
      obtain ⟨a, xs, rfl, ha, lx, hp⟩ := hk
      have ln : xs.length = ks.length := Paired.length hp
      refine ⟨_, rfl, _, _, _, _, true, rfl, ClsV.ty _, TyX.base (.tup ha), isT_yes, _, rfl, ?_⟩
      refine ⟨_, rfl, _, _, rfl, .inr (.inl (.inl ha)), _, _, rfl, rfl, _, rfl, ite2 (fun e => ?_) (fun e => ?_)⟩
      · have e1 : 1 ≤ ks.length := by
          have := of_decide_eq_true e
          omega
        refine ⟨_, _, rfl, rfl, _, rfl, ?_⟩
        by_cases h24 : ks.length ≤ 24
        · have d24 : decide ((xs.length : Int) ≤ 24) = true := decide_eq_true (by omega)
          rw [d24]
          refine ⟨_, rfl, a, rfl, ⟨_, .inl (.inl ha)⟩, fun D hD => lc_tup (K := K) (a := a) (xs := xs) (fun i H' => Same H H' ∧ H' D = some (.lst ((ks.take i).map fun k => V.bl (isRowK k)))) ⟨same_new hD, upd_same⟩ (fun i H' _ z => .inl (.inl (z.1 _ _ ha))) ?_ ?_⟩
          · rintro i x H1 hx ⟨sm, hD1⟩
            obtain ⟨k, hk, h1⟩ := pair_get hp hx
            have hi : i < ks.length := (List.getElem?_eq_some_iff.mp hk).1
            refine ⟨rfl, _, rfl, x, k, rfl, is1_same sm h1, fun H2 s2 => ⟨_, s2 _ _ hD1, ?_, Same.mut (sm.trans s2) hD, ?_⟩⟩
            · rw [List.length_map, List.length_take]
              exact szl (by omega)
            · rw [upd_same, take_more ks i k hk, List.map_append]
              rfl
          · rintro H1 ⟨sm, hD1⟩
            rw [List.take_of_length_le (by omega)] at hD1
            refine ⟨_, ks.map isRowK, rfl, SqL.of (by rw [List.map_map]; exact hD1), _, rfl, ?_⟩
            have hall : (ks.map isRowK).all id = ks.all isRowK := by
              rw [List.all_map]
              rfl
            rw [hall]
            cases hr : ks.all isRowK with
            | false =>
              have h2 := q H1 sm
              rw [isPageO_some] at h2
              rw [hr, Bool.and_false, Bool.false_and] at h2
              exact h2
            | true =>
              have rk : ∀ k ∈ ks, isRowK k = true := List.all_eq_true.mp hr
              obtain ⟨x0, xr, rfl⟩ : ∃ x0 xr, xs = x0 :: xr := by
                cases xs with
                | nil =>
                  rw [← ln] at e1
                  exact absurd e1 (by decide)
                | cons x r => exact ⟨x, r, rfl⟩
              obtain ⟨k0, hk0, h10⟩ := pair_get hp (i := 0) rfl
              obtain ⟨z0, rfl, rfl, lz0⟩ := txt_of h10 (rk k0 (List.mem_of_getElem? hk0))
              have l0 : len0 ks = z0.length := by
                cases ks with
                | nil => cases hk0
                | cons k r =>
                  have := Option.some.inj hk0
                  subst this
                  rfl
              refine ⟨_, rfl, a, rfl, ⟨_, .inl (.inl (sm _ _ ha))⟩, fun D2 hD2 => lc_tup (K := K) (a := a) (xs := .str z0 :: xr) (fun i H' => Same H1 H' ∧ H' D2 = some (.lst ((ks.take i).map fun k => V.bl (decide (kLen k = len0 ks))))) ⟨same_new hD2, upd_same⟩ (fun i H' _ z => .inl (.inl (z.1 _ _ (sm _ _ ha)))) ?_ ?_⟩
              · rintro i x H2 hx ⟨s2, hD3⟩
                obtain ⟨k, hk, h1⟩ := pair_get hp hx
                have hi : i < ks.length := (List.getElem?_eq_some_iff.mp hk).1
                obtain ⟨z, rfl, rfl, lz⟩ := txt_of h1 (rk k (List.mem_of_getElem? hk))
                refine ⟨rfl, _, rfl, _, rfl, sz lz, _, rfl, _, _, _, .str z0, rfl, rfl, .inl (.inl (s2 _ _ (sm _ _ ha))), atI_nat (j := 0) rfl, _, rfl, sz lz0, rfl, _, hD3, ?_, Same.mut s2 hD2, ?_⟩
                · rw [List.length_map, List.length_take]
                  exact szl (by omega)
                · rw [upd_same, take_more ks i _ hk, List.map_append, l0]
                  have ed : decide (V.int (z.length : Int) = V.int (z0.length : Int)) = decide (kLen (.txt z) = z0.length) := by
                    apply decide_eq_decide.mpr
                    exact ⟨fun h => by
                      have := V.int.inj h
                      show z.length = z0.length
                      omega, fun h => by
                      have : z.length = z0.length := h
                      rw [this]⟩
                  rw [ed]
                  rfl
              · rintro H2 ⟨s2, hD3⟩
                rw [List.take_of_length_le (by omega)] at hD3
                refine ⟨_, ks.map fun k => decide (kLen k = len0 ks), rfl, SqL.of (by rw [List.map_map]; exact hD3), ?_⟩
                have h2 := q H2 (sm.trans s2)
                rw [isPageO_some] at h2
                rw [hr, decide_eq_true e1, decide_eq_true h24, Bool.true_and, Bool.true_and, Bool.true_and] at h2
                rw [List.all_map]
                exact h2
        · have d24 : decide ((xs.length : Int) ≤ 24) = false := decide_eq_false (by omega)
          rw [d24]
          have h2 := q H (Same.refl H)
          rw [isPageO_some] at h2
          rw [decide_eq_false h24, Bool.and_false, Bool.false_and, Bool.false_and] at h2
          exact h2
      · have e1 : ¬ 1 ≤ ks.length := fun n => e (decide_eq_true (by omega))
        refine ⟨_, rfl, ?_⟩
        have h2 := q H (Same.refl H)
        rw [isPageO_some] at h2
        rw [decide_eq_false e1, Bool.false_and, Bool.false_and, Bool.false_and] at h2
        exact h2
def spLawIsPage (K : PySem.W.Frag) : Sp := fun vs H Q _ => ∃ (v : V) (o : Option (List Kd)), vs = [v] ∧ IsP K H v o ∧ Q (.bl (isPageO o)) H
theorem ok_is_page_l {A : Ad} (T : Txt K mg A) : FnOk P w K mg base CX0 2 A.a_is_page_l A.d_is_page_l P_is_page_l (spLawIsPage K) := by
  have G_is_row_l := ok_is_row_l (P := P) (w := w) (base := base) T
  refine T.F_is_page_l.ok sc_is_page_l (fun vs H Q E h => ?_) (fun cdv Ar outer s H vs Q E hr h => ?_)
  · obtain ⟨v, o, rfl, _⟩ := h
    rfl
  · obtain ⟨v, o, rfl, hk, q⟩ := h
    refine ⟨_, (pss_cons (ps_if (PW.pt (pw_or (pt_not (pt_val (pe_callB (r := rIsi K) call_isi (by rfl) T.z_isinstance (by decide +kernel) (pa_cons (pv 0) (pa_cons (pe_bltn (v := .ty "tuple") (by rfl) T.z_tuple (by decide +kernel) rfl) pa_nil))))) (pw_or (pt_cmpR op_lt (pe_callB (r := fun xs H Q => ∃ p ys, xs = [.ref p] ∧ (SqL K H p ys ∨ SqT K H p ys) ∧ Q (.int ys.length) H) call_len_seq (by rfl) T.z_len PySem.boot_len (pa_cons (pv 0) pa_nil)) pe_int (nomark _)) (pw_or1 (pt_cmpR op_gt (pe_callB (r := fun xs H Q => ∃ p ys, xs = [.ref p] ∧ (SqL K H p ys ∨ SqT K H p ys) ∧ Q (.int ys.length) H) call_len_seq (by rfl) T.z_len PySem.boot_len (pa_cons (pv 0) pa_nil)) pe_int (nomark _))))))
      (pss_one (ps_ret pe_bl)) pss_nil)
      (pss_cons (ps_for PassesOwn.never rfl (pi_tup (pv 0)) (pg_name (i := 1) sc_is_page_l.nd rfl (Or.inl rfl))
      (pss_one (ps_if (PW.pt (pw_or (pt_not (pt_val (pe_call G_is_row_l (hr.mono (by decide)) (by rfl) T.g_is_row_l T.F_is_row_l.kp T.b_is_row_l .nil pass0 (pa_cons (pv 1) pa_nil)))) (pw_or1 (pt_cmpR op_ne (pe_callB call_len_str (by rfl) T.z_len PySem.boot_len (pa_cons (pv 1) pa_nil)) (pe_callB call_len_str (by rfl) T.z_len PySem.boot_len (pa_cons (pe_ix (r := rIxT K) ix_tup (pv 0) pe_int (fun _ _ => rfl)) pa_nil)) (nomark _)))))
      (pss_one (ps_ret pe_bl)) pss_nil)))
      (pss_one (ps_ret pe_bl)))), ?_⟩
    cases o with
    | none =>
      obtain ⟨t, ht, hm⟩ := hk
      refine ⟨_, rfl, _, _, _, _, false, rfl, ClsV.ty _, TyX.base ht, isT_no hm, _, rfl, ?_⟩
      exact q
    | some ks =>
      obtain ⟨a, xs, rfl, ha, lx, hp⟩ := hk
      have ln : xs.length = ks.length := Paired.length hp
      rw [isPageO_some] at q
      refine ⟨_, rfl, _, _, _, _, true, rfl, ClsV.ty _, TyX.base (.tup ha), isT_yes, _, rfl, ?_⟩
      refine ⟨_, rfl, _, _, rfl, .inr (.inl (.inl ha)), _, _, rfl, rfl, _, rfl, ite2 (fun e => ?_) (fun e => ?_)⟩
      · have e1 : ¬ 1 ≤ ks.length := by
          have := of_decide_eq_true e
          omega
        rw [decide_eq_false e1, Bool.false_and, Bool.false_and, Bool.false_and] at q
        exact q
      · have e1 : 1 ≤ ks.length := Nat.not_lt.mp fun n => e (decide_eq_true (by omega))
        refine ⟨_, rfl, _, _, rfl, .inr (.inl (.inl ha)), _, _, rfl, rfl, _, rfl, ite2 (fun e2 => ?_) (fun e2 => ?_)⟩
        · have h24 : ¬ ks.length ≤ 24 := by
            have := of_decide_eq_true e2
            omega
          rw [decide_eq_false h24, Bool.and_false, Bool.false_and, Bool.false_and] at q
          exact q
        · have h24 : ks.length ≤ 24 := Nat.not_lt.mp fun n => e2 (decide_eq_true (by omega))
          rw [decide_eq_true e1, decide_eq_true h24, Bool.true_and, Bool.true_and] at q
          refine ⟨_, rfl, a, rfl, ⟨_, .inl (.inl ha)⟩, for_tup (K := K) (a := a) (xs := xs) (fun i σ H' => ∃ y1, σ = [some (.ref a), y1] ∧ H' = H ∧ ∀ k ∈ ks.take i, isRowK k = true ∧ kLen k = len0 ks) ⟨none, rfl, rfl, fun k h => by simp at h⟩ (fun i σ H' _ ⟨_, _, e, _⟩ => by rw [e]; exact .inl (.inl ha)) ?_ ?_⟩
          · rintro i x σ H1 hx ⟨y1, rfl, rfl, hall⟩
            obtain ⟨k, hk, h1⟩ := pair_get hp hx
            have hi : i < ks.length := (List.getElem?_eq_some_iff.mp hk).1
            have mk := List.mem_of_getElem? hk
            refine ⟨_, rfl, x, k, rfl, h1, _, rfl, ?_⟩
            cases hr : isRowK k with
            | false =>
              have : ks.all isRowK = false := by
                rw [← Bool.not_eq_true]
                intro h3
                rw [List.all_eq_true] at h3
                rw [h3 k mk] at hr
                cases hr
              rw [this, Bool.false_and] at q
              exact q
            | true =>
              obtain ⟨z, rfl, rfl, lz⟩ := txt_of h1 hr
              obtain ⟨x0, xr, rfl⟩ : ∃ x0 xr, xs = x0 :: xr := by
                cases xs with
                | nil => cases hx
                | cons x r => exact ⟨x, r, rfl⟩
              obtain ⟨k0, hk0, h10⟩ := pair_get hp (i := 0) rfl
              have r0 : isRowK k0 = true := by
                cases i with
                | zero =>
                  have := Option.some.inj (hk0.symm.trans hk)
                  rw [this]
                  exact hr
                | succ j =>
                  refine (hall k0 ?_).1
                  cases ks with
                  | nil => cases hk0
                  | cons k r =>
                    have := Option.some.inj hk0
                    subst this
                    exact List.mem_cons_self ..
              obtain ⟨z0, rfl, rfl, lz0⟩ := txt_of h10 r0
              have l0 : len0 ks = z0.length := by
                cases ks with
                | nil => cases hk0
                | cons k r =>
                  have := Option.some.inj hk0
                  subst this
                  rfl
              refine ⟨_, rfl, _, rfl, sz lz, _, rfl, _, _, _, .str z0, rfl, rfl, .inl (.inl ha), atI_nat (j := 0) rfl, _, rfl, sz lz0, rfl, _, rfl, ?_⟩
              by_cases el : z.length = z0.length
              · have ed : decide (V.int (z.length : Int) = V.int (z0.length : Int)) = true := decide_eq_true (by rw [el])
                rw [ed]
                refine ⟨_, rfl, rfl, fun k hk2 => ?_⟩
                rw [take_more ks i _ hk] at hk2
                rcases List.mem_append.mp hk2 with h | h
                · exact hall k h
                · rw [List.mem_singleton.mp h]
                  exact ⟨hr, by rw [l0]; exact el⟩
              · have ed : decide (V.int (z.length : Int) = V.int (z0.length : Int)) = false := decide_eq_false fun h => el (by have := V.int.inj h; omega)
                rw [ed]
                have : (ks.all fun k => decide (kLen k = len0 ks)) = false := by
                  rw [← Bool.not_eq_true]
                  intro h3
                  rw [List.all_eq_true] at h3
                  have := of_decide_eq_true (h3 _ mk)
                  rw [l0] at this
                  exact el this
                rw [this, Bool.and_false] at q
                exact q
          · rintro σ H1 ⟨y1, rfl, rfl, hall⟩
            rw [List.take_of_length_le (by omega)] at hall
            have h1 : ks.all isRowK = true := List.all_eq_true.mpr fun k hk => (hall k hk).1
            have h2 : (ks.all fun k => decide (kLen k = len0 ks)) = true := List.all_eq_true.mpr fun k hk => decide_eq_true (hall k hk).2
            rw [h1, h2] at q
            exact q

def spSigns : Sp := fun vs H Q _ => vs = [] ∧ ∀ z : Str, z.length = 94 → Q (.str z) H
theorem ok_signs {A : Ad} (T : Txt K mg A) : FnOk P w K mg base CX0 1 A.a_signs A.d_signs P_signs spSigns := by
  refine T.F_signs.ok sc_signs (fun vs H Q E h => ?_) (fun cdv Ar outer s H vs Q E hr h => ?_)
  · obtain ⟨rfl, _⟩ := h
    rfl
  · obtain ⟨rfl, q⟩ := h
    refine ⟨_, (pss_one (ps_ret (pe_op op_add_str pe_str pe_str))), ?_⟩
    refine ⟨_, _, rfl, rfl, ?_, ?_⟩
    · decide +kernel
    · exact q _ (by decide +kernel)
def spOdd : Sp := fun vs H Q _ => ∃ b : Addr, vs = [.ref b] ∧ BagAt H b ∧ ∀ v H', Tg b H' v → Bx b H H' → Q v H'
theorem pick_at {xs : List V} {j : Int} (j0 : 0 ≤ j) (j1 : j < (xs.length : Int)) : ∃ v, atI xs j = some v ∧ v ∈ xs := by
  obtain ⟨k, rfl⟩ := Int.eq_ofNat_of_zero_le j0
  have hk : k < xs.length := by omega
  exact ⟨xs[k], atI_nat (List.getElem?_eq_getElem hk), List.getElem_mem hk⟩
theorem pick_sign {z : Str} {j : Int} (j0 : 0 ≤ j) (j1 : j < (z.length : Int)) : ∃ c, atI z.cps.toList j = some c := by
  obtain ⟨k, rfl⟩ := Int.eq_ofNat_of_zero_le j0
  have hk : k < z.cps.toList.length := by
    rw [Array.length_toList]
    show k < z.length
    omega
  exact ⟨z.cps.toList[k], atI_nat (List.getElem?_eq_getElem hk)⟩
theorem ok_odd {A : Ad} (T : Txt K mg A) : FnOk P w K mg base CX0 2 A.a_odd A.d_odd P_odd spOdd := by
  have G_draw := ok_draw (P := P) (w := w) (base := base) T
  refine T.F_odd.ok sc_odd (fun vs H Q E h => ?_) (fun cdv Ar outer s H vs Q E hr h => ?_)
  · obtain ⟨b, rfl, _⟩ := h
    rfl
  · obtain ⟨b, rfl, hb, q⟩ := h
    refine ⟨_, (pss_cons (ps_set (i := 1) sc_odd.nd rfl (Or.inl rfl) (pe_lstW (pa_cons pe_non (pa_cons pe_bl (pa_cons pe_bl (pa_cons pe_int (pa_cons pe_int (pa_cons (pe_un un_neg pe_int) (pa_cons (pe_op op_pow pe_int pe_int) (pa_cons pe_str (pa_cons pe_str (pa_cons pe_str (pa_cons pe_str (pa_cons (pe_tupW pa_nil) (pa_cons (pe_lstW pa_nil) (pa_cons (pe_lstW (pa_cons pe_str pa_nil)) (pa_cons (pe_tupW (pa_cons pe_str (pa_cons pe_int pa_nil))) (pa_cons (pe_tupW (pa_cons pe_non pa_nil)) pa_nil))))))))))))))))))
      (pss_one (ps_ret (pe_ix (r := rIxL K) ix_list (pv 1) (pe_call G_draw (hr.mono (by decide)) (by rfl) T.g_draw T.F_draw.kp T.b_draw .nil pass0 (pa_cons (pv 0) (pa_cons pe_int pa_nil))) (fun _ _ => rfl))))), ?_⟩
    refine ⟨_, rfl, _, _, rfl, rfl, ⟨by decide, by decide, by decide⟩, (by show 0 ≤ 100000; decide), fun p1 H1 n1 s1 e1 => ⟨(by show 0 ≤ 100000; decide), fun p2 H2 n2 s2 e2 => ⟨(by show 1 ≤ 100000; decide), fun p3 H3 n3 s3 e3 => ⟨(by show 2 ≤ 100000; decide), fun p4 H4 n4 s4 e4 => ⟨(by show 1 ≤ 100000; decide), fun p5 H5 n5 s5 e5 => ⟨(by show 16 ≤ 100000; decide), fun p H6 n6 s6 e6 => ?_⟩⟩⟩⟩⟩⟩
    have b1 : Bx b H H1 := (Bx.refl hb).same s1
    have b2 := b1.same s2
    have b3 := b2.same s3
    have b4 := b3.same s4
    have b5 := b4.same s5
    have b6 := b5.same s6
    have np : p ≠ b := BagAt.ne b5.1 n6
    refine ⟨_, rfl, _, rfl, b, 16, rfl, b6.1, by decide, by decide, fun j H7 j0 j1 bx7 => ?_⟩
    obtain ⟨v, hv, mv⟩ := pick_at (xs := [.non, .bl true, .bl false, .int 0, .int 8, .int (-1), .int (10 ^ (29 : Int).toNat), .str (Str.ofString ""), .str (Str.ofString "."), .str (Str.ofString "#"), .str (Str.ofString "1"), .ref p1, .ref p2, .ref p3, .ref p4, .ref p5]) j0 (by show j < 16; exact j1)
    refine ⟨_, _, _, v, rfl, rfl, SqL.of (bx7.2 _ _ np e6), hv, ?_⟩
    refine q v H7 (Tg.bx (H := H6) ?_ b6.1 bx7) (b6.trans bx7)
    have f1 := s6 _ _ (s5 _ _ (s4 _ _ (s3 _ _ (s2 _ _ e1))))
    have f2 := s6 _ _ (s5 _ _ (s4 _ _ (s3 _ _ e2)))
    have f3 := s6 _ _ (s5 _ _ (s4 _ _ e3))
    have f4 := s6 _ _ (s5 _ _ e4)
    have f5 := s6 _ _ e5
    have flat : ∀ {v : V}, Flat v → Tg b H6 v := fun h => .inl h
    simp only [List.mem_cons, List.not_mem_nil, or_false] at mv
    rcases mv with rfl | rfl | rfl | rfl | rfl | rfl | rfl | rfl | rfl | rfl | rfl | rfl | rfl | rfl | rfl | rfl
    · exact flat (.inl rfl)
    · exact flat (.inr (.inl ⟨_, rfl⟩))
    · exact flat (.inr (.inl ⟨_, rfl⟩))
    · exact flat (.inr (.inr (.inl ⟨_, rfl⟩)))
    · exact flat (.inr (.inr (.inl ⟨_, rfl⟩)))
    · exact flat (.inr (.inr (.inl ⟨_, rfl⟩)))
    · exact flat (.inr (.inr (.inl ⟨_, rfl⟩)))
    · exact Tg.str (by decide +kernel)
    · exact Tg.str (by decide +kernel)
    · exact Tg.str (by decide +kernel)
    · exact Tg.str (by decide +kernel)
    · exact .inr (.inr ⟨p1, _, rfl, f1, (by show 0 ≤ 1000; decide), fun u hu => nomatch hu⟩)
    · exact .inr (.inl ⟨p2, _, rfl, BagAt.ne b1.1 n2, f2⟩)
    · exact .inr (.inl ⟨p3, _, rfl, BagAt.ne b2.1 n3, f3⟩)
    · refine .inr (.inr ⟨p4, _, rfl, f4, (by show 2 ≤ 1000; decide), fun u hu => ?_⟩)
      simp only [List.mem_cons, List.not_mem_nil, or_false] at hu
      rcases hu with rfl | rfl
      · exact It.str (by decide +kernel)
      · exact .inl (.inr (.inr (.inl ⟨_, rfl⟩)))
    · refine .inr (.inr ⟨p5, _, rfl, f5, (by show 1 ≤ 1000; decide), fun u hu => ?_⟩)
      rw [List.mem_singleton.mp hu]
      exact .inl (.inl rfl)

def spRows : Sp := fun vs H Q _ => ∃ (b : Addr) (z : Str), vs = [.ref b, .str z] ∧ BagAt H b ∧ 1 ≤ z.length ∧ z.length ≤ 64 ∧
  ∀ p xs H', p ≠ b → H' p = some (.lst xs) → (∀ v ∈ xs, Tg b H' v) → Bx b H H' → Q (.ref p) H'
theorem cut_le (z : Str) (lo hi : Option Int) (n : Nat) (h : z.length ≤ n) : (cutS z lo hi).length ≤ n := Nat.le_trans (cutS_length z lo hi) h
theorem one_len (c : Nat) : (⟨#[c]⟩ : Str).length = 1 := rfl
theorem app_len (x y : Str) : (x ++ y).length = x.length + y.length := by
  show (x.cps ++ y.cps).size = _
  rw [Array.size_append]
  rfl
theorem ok_rows {A : Ad} (T : Txt K mg A) : FnOk P w K mg base CX0 3 A.a_rows A.d_rows P_rows spRows := by
  have G_signs := ok_signs (P := P) (w := w) (base := base) T
  have G_draw := ok_draw (P := P) (w := w) (base := base) T
  have G_odd := ok_odd (P := P) (w := w) (base := base) T
  refine T.F_rows.ok sc_rows (fun vs H Q E h => ?_) (fun cdv Ar outer s H vs Q E hr h => ?_)
  · obtain ⟨b, z, rfl, _⟩ := h
    rfl
  · obtain ⟨b, z, rfl, hb, z0, z1, q⟩ := h
    refine ⟨_, (pss_cons (ps_set (i := 2) sc_rows.nd rfl (Or.inl rfl) (pe_call0 G_signs (hr.mono (by decide)) (by rfl) T.g_signs T.F_signs.kp T.b_signs .nil pass0))
      (pss_cons (ps_set (i := 3) sc_rows.nd rfl (Or.inl rfl) (pe_call G_draw (hr.mono (by decide)) (by rfl) T.g_draw T.F_draw.kp T.b_draw .nil pass0 (pa_cons (pv 0) (pa_cons (pe_callB call_len_str (by rfl) T.z_len PySem.boot_len (pa_cons (pv 1) pa_nil)) pa_nil))))
      (pss_cons (ps_set (i := 4) sc_rows.nd rfl (Or.inl rfl) (pe_lstW (pa_cons (pv 1) (pa_cons (pe_op op_add_str (pe_op op_add_str (pe_slice sl_str (pv 1) po_none (po_some (pv 3))) (pe_ix ix_str (pv 2) (pe_call G_draw (hr.mono (by decide)) (by rfl) T.g_draw T.F_draw.kp T.b_draw .nil pass0 (pa_cons (pv 0) (pa_cons pe_int pa_nil))) (fun _ _ => rfl))) (pe_slice sl_str (pv 1) (po_some (pe_op op_add (pv 3) pe_int)) po_none)) (pa_cons (pe_slice sl_str (pv 1) po_none (po_some pe_int)) (pa_cons (pe_slice sl_str (pv 1) po_none (po_some pe_int)) (pa_cons (pe_callTy (call_list_strW rfl) (by rfl) T.z_list (by decide +kernel) (pa_cons (pv 1) pa_nil)) (pa_cons (pe_tupW (pa_cons (pv 1) pa_nil)) pa_nil))))))))
      (pss_cons (ps_set (i := 5) sc_rows.nd rfl (Or.inl rfl) (pe_slice sl_str (pe_op op_mul_txt (pv 1) pe_int) (po_some (pe_call G_draw (hr.mono (by decide)) (by rfl) T.g_draw T.F_draw.kp T.b_draw .nil pass0 (pa_cons (pv 0) (pa_cons pe_int pa_nil)))) po_none))
      (pss_one (ps_ret (pe_op op_catLW (pv 4) (pe_lstW (pa_cons (pe_slice sl_str (pv 5) po_none (po_some pe_int)) (pa_cons (pe_slice sl_str (pv 5) po_none (po_some pe_int)) (pa_cons (pe_slice sl_str (pv 5) po_none (po_some (pe_op op_add pe_int (pe_call G_draw (hr.mono (by decide)) (by rfl) T.g_draw T.F_draw.kp T.b_draw .nil pass0 (pa_cons (pv 0) (pa_cons pe_int pa_nil)))))) (pa_cons (pe_slice sl_str (pv 1) po_none (po_some (pv 3))) (pa_cons (pe_call G_odd (hr.mono (by decide)) (by rfl) T.g_odd T.F_odd.kp T.b_odd .nil pass0 (pa_cons (pv 0) pa_nil)) pa_nil))))))))))))), ?_⟩
    have hl : z.length ≤ sizeLine := sz (by omega)
    have c := fun lo hi => cut_le z lo hi 64 z1
    refine ⟨rfl, fun sg lsg => ?_⟩
    have hsg : sg.length ≤ sizeLine := sz (by omega)
    refine ⟨_, rfl, _, rfl, _, rfl, hl, b, _, rfl, hb, by omega, by omega, fun pl H1 a0 a1 bx1 => ?_⟩
    refine ⟨_, rfl, _, rfl, _, rfl, _, rfl, _, rfl, hl, _, rfl, _, rfl, b, 94, rfl, bx1.1, by decide, by decide, fun j H2 j0 j1 bx2 => ?_⟩
    obtain ⟨cc, hcc⟩ := pick_sign (z := sg) j0 (by rw [lsg]; exact j1)
    refine ⟨_, _, cc, rfl, rfl, hsg, hcc, _, _, rfl, rfl, ?_, _, rfl, _, rfl, _, _, rfl, rfl, _, rfl, _, rfl, hl, _, _, rfl, rfl, ?_, _, rfl, _, rfl, _, rfl, hl, _, rfl, _, rfl, _, rfl, hl, _, rfl, z, rfl, by omega, fun p1 H3 n1 s1 e1 => ?_⟩
    · rw [one_len]
      exact sz (by have := c none (some pl); omega)
    · rw [app_len, one_len]
      exact sz (by have := c none (some pl); have := c (some (pl + 1)) none; omega)
    have bx3 := (bx1.trans bx2).same s1
    refine ⟨_, rfl, (by show 1 ≤ 100000; decide), fun p2 H4 n2 s2 e2 => ⟨(by show 6 ≤ 100000; decide), fun p3 H5 n3 s3 e3 => ?_⟩⟩
    have bx4 := bx3.same s2
    have bx5 := bx4.same s3
    -- longer
    refine ⟨_, rfl, _, _, rfl, rfl, ⟨by decide, by decide, by omega⟩, fun m lm => ⟨_, rfl, b, 8, rfl, bx5.1, by decide, by decide, fun d H6 d0 d1 bx6 => ⟨_, rfl, _, rfl, sz (by omega), ?_⟩⟩⟩
    have lg : (cutS m (some d) none).length ≤ 600 := cut_le m _ _ 600 (by omega)
    have hg : (cutS m (some d) none).length ≤ sizeLine := sz (by omega)
    generalize cutS m (some d) none = g at lg hg ⊢
    have cg := fun lo hi => cut_le g lo hi 600 lg
    refine ⟨_, rfl, _, rfl, _, rfl, _, rfl, hg, _, rfl, _, rfl, _, rfl, hg, _, rfl, _, rfl, b, 57, rfl, bx6.1, by decide, by decide, fun d2 H7 f0 f1 bx7 => ⟨_, _, rfl, rfl, _, rfl, _, rfl, hg, _, rfl, _, rfl, _, rfl, _, rfl, hl, _, rfl, b, rfl, bx7.1, fun ov H8 hov bx8 => ⟨(by show 5 ≤ 100000; decide), fun p4 H9 n4 s4 e4 => ?_⟩⟩⟩
    have bx9 : Bx b H5 H9 := ((bx6.trans bx7).trans bx8).same s4
    have n3b : p3 ≠ b := BagAt.ne bx4.1 n3
    have n2b : p2 ≠ b := BagAt.ne bx3.1 n2
    have n1b : p1 ≠ b := BagAt.ne (bx1.trans bx2).1 n1
    refine ⟨_, _, _, _, rfl, rfl, bx9.2 _ _ n3b e3, e4, (by show 11 ≤ 100000; decide), fun p5 H10 n5 s5 e5 => ?_⟩
    have bx10 := bx9.same s5
    have n5b : p5 ≠ b := BagAt.ne bx9.1 n5
    refine q p5 _ H10 n5b e5 (fun v hv => ?_) (bx5.trans bx10)
    have g1 := bx10.2 _ _ n1b (s3 _ _ (s2 _ _ e1))
    have g2 := bx10.2 _ _ n2b (s3 _ _ e2)
    have hov2 : Tg b H10 ov := hov.bx bx8.1 (((Bx.refl bx8.1).same s4).same s5)
    rcases List.mem_append.mp hv with hv | hv
    · simp only [List.mem_cons, List.not_mem_nil, or_false] at hv
      rcases hv with rfl | rfl | rfl | rfl | rfl | rfl
      · exact Tg.str (by omega)
      · refine Tg.str ?_
        rw [app_len, app_len, one_len]
        have := c none (some pl)
        have := c (some (pl + 1)) none
        omega
      · exact Tg.str (by have := c none (some 7); omega)
      · exact Tg.str (by have := c none (some 8); omega)
      · exact .inr (.inl ⟨p1, _, rfl, n1b, g1⟩)
      · refine .inr (.inr ⟨p2, _, rfl, g2, (by show 1 ≤ 1000; decide), fun u hu => ?_⟩)
        rw [List.mem_singleton.mp hu]
        exact It.str (by omega)
    · simp only [List.mem_cons, List.not_mem_nil, or_false] at hv
      rcases hv with rfl | rfl | rfl | rfl | rfl
      · exact Tg.str (by have := cg none (some 64); omega)
      · exact Tg.str (by have := cg none (some 65); omega)
      · exact Tg.str (by have := cg none (some (8 + d2)); omega)
      · exact Tg.str (by have := c none (some pl); omega)
      · exact hov2
def spPages : Sp := fun vs H Q _ => ∃ (b a : Addr) (ys : List Str), vs = [.ref b, .ref a] ∧ BagAt H b ∧ H a = some (.tup (ys.map V.str)) ∧ 1 ≤ ys.length ∧ ys.length ≤ 24 ∧ (∀ z ∈ ys, z.length ≤ 64) ∧
  ∀ p xs H', p ≠ b → H' p = some (.lst xs) → (∀ v ∈ xs, Tg b H' v) → Bx b H H' → Q (.ref p) H'
theorem it_ys {b : Addr} {H : Hp} {ys : List Str} (hy : ∀ z ∈ ys, z.length ≤ 64) : ∀ u ∈ ys.map V.str, It b H u := fun u hu => by
  obtain ⟨z, hz, rfl⟩ := List.mem_map.mp hu
  exact It.str (by have := hy z hz; omega)
theorem it_cut {b : Addr} {H : Hp} {ys : List Str} (hy : ∀ z ∈ ys, z.length ≤ 64) (lo hi : Option Int) : ∀ u ∈ cutV (ys.map V.str) lo hi, It b H u := fun u hu => it_ys hy u (cutV_mem hu)
theorem it_app {b : Addr} {H : Hp} {xs zs : List V} (h1 : ∀ u ∈ xs, It b H u) (h2 : ∀ u ∈ zs, It b H u) : ∀ u ∈ xs ++ zs, It b H u := fun u hu => by
  rcases List.mem_append.mp hu with h | h
  · exact h1 u h
  · exact h2 u h
theorem it_one {b : Addr} {H : Hp} {x : V} (h : It b H x) : ∀ u ∈ [x], It b H u := fun u hu => by
  rw [List.mem_singleton.mp hu]
  exact h
theorem tg_app {b : Addr} {H : Hp} {xs zs : List V} (h1 : ∀ u ∈ xs, Tg b H u) (h2 : ∀ u ∈ zs, Tg b H u) : ∀ u ∈ xs ++ zs, Tg b H u := fun u hu => by
  rcases List.mem_append.mp hu with h | h
  · exact h1 u h
  · exact h2 u h
theorem tg_nil {b : Addr} {H : Hp} : ∀ u ∈ ([] : List V), Tg b H u := fun _ h => nomatch h
theorem tg_cons {b : Addr} {H : Hp} {x : V} {xs : List V} (h1 : Tg b H x) (h2 : ∀ u ∈ xs, Tg b H u) : ∀ u ∈ x :: xs, Tg b H u := fun u hu => by
  rcases List.mem_cons.mp hu with h | h
  · rw [h]
    exact h1
  · exact h2 u h
theorem tg_tup {b a : Addr} {H : Hp} {xs : List V} (e : H a = some (.tup xs)) (l : xs.length ≤ 1000) (h : ∀ u ∈ xs, It b H u) : Tg b H (.ref a) := .inr (.inr ⟨a, xs, rfl, e, l, h⟩)
theorem bxs {b : Addr} {H H' : Hp} (h : BagAt H b) (s : Same H H') : Bx b H H' := (Bx.refl h).same s
theorem rep_it {b : Addr} {H : Hp} {x : V} (h : It b H x) (n : Nat) : ∀ u ∈ (List.replicate n [x]).flatten, It b H u := fun u hu => by
  obtain ⟨l, hl, hu⟩ := List.mem_flatten.mp hu
  rw [(List.mem_replicate.mp hl).2] at hu
  rw [List.mem_singleton.mp hu]
  exact h
theorem rep_len (x : V) (n : Nat) : (List.replicate n [x]).flatten.length = n := by
  induction n with
  | zero => rfl
  | succ k ih =>
    rw [List.replicate_succ, List.flatten_cons, List.length_append, ih]
    show 1 + k = k + 1
    omega
theorem sum_le {ys : List Str} (h : ∀ z ∈ ys, z.length ≤ 64) : (ys.map (·.length)).sum ≤ 64 * ys.length := by
  induction ys with
  | nil => exact Nat.le_refl _
  | cons z r ih =>
    have h1 := h z (List.mem_cons_self ..)
    have h2 := ih fun x hx => h x (List.mem_cons_of_mem _ hx)
    rw [List.map_cons, List.sum_cons, List.length_cons]
    omega
theorem join_le {ys : List Str} (h : ∀ z ∈ ys, z.length ≤ 64) (hl : ys.length ≤ 24) : (Txt.join (Str.ofString "/") ys).length ≤ 100000 := by
  show (Builtin.Str.glued (Str.ofString "/") ys).length ≤ 100000
  rw [StrLaws.glued_eq_join]
  have h1 := StrLaws.join_length_le (Str.ofString "/") ys
  have h2 := sum_le h
  have h3 : (Str.ofString "/").length = 1 := by decide +kernel
  rw [h3] at h1
  omega
set_option maxHeartbeats 16000000 in
theorem ok_pages {A : Ad} (T : Txt K mg A) : FnOk P w K mg base CX0 3 A.a_pages A.d_pages P_pages spPages := by
  have G_draw := ok_draw (P := P) (w := w) (base := base) T
  have G_odd := ok_odd (P := P) (w := w) (base := base) T
  refine T.F_pages.ok sc_pages (fun vs H Q E h => ?_) (fun cdv Ar outer s H vs Q E hr h => ?_)
  · obtain ⟨b, a, ys, rfl, _⟩ := h
    rfl
  · obtain ⟨b, a, ys, rfl, hb, ha, y0, y1, hy, q⟩ := h
    refine ⟨_, (pss_cons (ps_set (i := 2) sc_pages.nd rfl (Or.inl rfl) (pe_call G_draw (hr.mono (by decide)) (by rfl) T.g_draw T.F_draw.kp T.b_draw .nil pass0 (pa_cons (pv 0) (pa_cons (pe_callB (r := fun xs H Q => ∃ p ys, xs = [.ref p] ∧ (SqL K H p ys ∨ SqT K H p ys) ∧ Q (.int ys.length) H) call_len_seq (by rfl) T.z_len PySem.boot_len (pa_cons (pv 1) pa_nil)) pa_nil))))
      (pss_cons (ps_set (i := 3) sc_pages.nd rfl (Or.inl rfl) (pe_op op_catW (pe_slice sl_tupW (pv 1) po_none (po_some (pv 2))) (pe_slice sl_tupW (pv 1) (po_some (pe_op op_add (pv 2) pe_int)) po_none)))
      (pss_cons (ps_set (i := 4) sc_pages.nd rfl (Or.inl rfl) (pe_lstW (pa_cons (pv 1) (pa_cons (pe_callTy call_list_ofW (by rfl) T.z_list (by decide +kernel) (pa_cons (pv 1) pa_nil)) (pa_cons (pv 3) (pa_cons (pe_op op_catW (pv 1) (pe_tupW (pa_cons (pe_ix (r := rIxT K) ix_tup (pv 1) (pv 2) (fun _ _ => rfl)) pa_nil))) (pa_cons (pe_op op_catW (pe_op op_catW (pe_slice sl_tupW (pv 1) po_none (po_some (pv 2))) (pe_tupW (pa_cons (pe_call G_odd (hr.mono (by decide)) (by rfl) T.g_odd T.F_odd.kp T.b_odd .nil pass0 (pa_cons (pv 0) pa_nil)) pa_nil))) (pe_slice sl_tupW (pv 1) (po_some (pe_op op_add (pv 2) pe_int)) po_none)) pa_nil)))))))
      (pss_cons (ps_set (i := 4) sc_pages.nd rfl (Or.inl rfl) (pe_op op_catLW (pv 4) (pe_lstW (pa_cons (pe_op op_catW (pe_op op_catW (pe_slice sl_tupW (pv 1) po_none (po_some (pv 2))) (pe_tupW (pa_cons (pe_op op_add_str (pe_ix (r := rIxT K) ix_tup (pv 1) (pv 2) (fun _ _ => rfl)) pe_str) pa_nil))) (pe_slice sl_tupW (pv 1) (po_some (pe_op op_add (pv 2) pe_int)) po_none)) (pa_cons (pe_op op_repTW (pe_tupW (pa_cons (pe_ix (r := rIxT K) ix_tup (pv 1) (pv 2) (fun _ _ => rfl)) pa_nil)) pe_int) (pa_cons (pe_op op_repTW (pe_tupW (pa_cons (pe_ix (r := rIxT K) ix_tup (pv 1) (pv 2) (fun _ _ => rfl)) pa_nil)) pe_int) pa_nil))))))
      (pss_cons (ps_set (i := 4) sc_pages.nd rfl (Or.inl rfl) (pe_op op_catLW (pv 4) (pe_lstW (pa_cons (pe_op op_catW (pe_op op_catW (pe_slice sl_tupW (pv 1) po_none (po_some (pv 2))) (pe_tupW (pa_cons (pe_callTy (call_list_strW rfl) (by rfl) T.z_list (by decide +kernel) (pa_cons (pe_ix (r := rIxT K) ix_tup (pv 1) (pv 2) (fun _ _ => rfl)) pa_nil)) pa_nil))) (pe_slice sl_tupW (pv 1) (po_some (pe_op op_add (pv 2) pe_int)) po_none)) (pa_cons (pe_tupW (pa_cons (pv 1) pa_nil)) (pa_cons (pe_join pe_str (pv 1)) pa_nil))))))
      (pss_one (ps_ret (pe_op op_catLW (pv 4) (pe_lstW (pa_cons (pe_op op_catW (pe_op op_catW (pe_slice sl_tupW (pv 1) po_none (po_some (pv 2))) (pe_tupW (pa_cons (pe_op op_add_str (pe_slice sl_str (pe_ix (r := rIxT K) ix_tup (pv 1) (pv 2) (fun _ _ => rfl)) po_none (po_some (pe_un un_neg pe_int))) pe_str) pa_nil))) (pe_slice sl_tupW (pv 1) (po_some (pe_op op_add (pv 2) pe_int)) po_none)) (pa_cons (pe_call G_odd (hr.mono (by decide)) (by rfl) T.g_odd T.F_odd.kp T.b_odd .nil pass0 (pa_cons (pv 0) pa_nil)) (pa_cons (pe_tupW pa_nil) pa_nil)))))))))))), ?_⟩
    have na : a ≠ b := hb.tup ha
    have ly : (ys.map V.str).length = ys.length := List.length_map ..
    have lc := fun lo hi => cutV_len (ys.map V.str) lo hi
    refine ⟨_, rfl, _, rfl, _, _, rfl, .inr (.inl (.inl ha)), b, _, rfl, hb, by rw [ly]; omega, by rw [ly]; omega, fun pl H1 a0 a1 bx1 => ?_⟩
    obtain ⟨v, hv, mv⟩ := pick_at (xs := ys.map V.str) a0 a1
    obtain ⟨z, mz, rfl⟩ := List.mem_map.mp mv
    have lz : z.length ≤ 64 := hy z mz
    have h1 := bx1.2 _ _ na ha
    have hcut : ∀ lo hi, (cutV (ys.map V.str) lo hi).length ≤ 24 := fun lo hi => by
      have := lc lo hi
      rw [ly] at this
      omega
    have h3l : ∀ lo hi lo' hi' (x : V), (cutV (ys.map V.str) lo hi ++ [x] ++ cutV (ys.map V.str) lo' hi').length ≤ 1000 := fun lo hi lo' hi' x => by
      have := hcut lo hi
      have := hcut lo' hi'
      rw [List.length_append, List.length_append, List.length_singleton]
      omega
    -- short
    refine ⟨_, rfl, _, rfl, _, rfl, _, _, rfl, h1, fun q1 H2 s2 e2 => ⟨_, rfl, _, rfl, _, _, rfl, rfl, _, rfl, _, _, rfl, s2 _ _ h1, fun q2 H3 s3 e3 => ⟨_, _, _, _, rfl, rfl, s3 _ _ e2, e3, ?_, fun sh H4 s4 e4 => ?_⟩⟩⟩
    · have := hcut none (some pl)
      have := hcut (some (pl + 1)) none
      omega
    have bx4 := ((bx1.same s2).same s3).same s4
    have h4 := bx4.2 _ _ na ha
    -- found, the first five
    refine ⟨_, rfl, _, rfl, _, _, rfl, .inr h4, fun p5 H5 n5 s5 e5 => ?_⟩
    have bx5 := bx4.same s5
    have h5 := s5 _ _ h4
    refine ⟨_, rfl, _, rfl, _, rfl, _, rfl, _, _, _, .str z, rfl, rfl, .inl (.inl h5), hv, (by show 1 ≤ 100000; decide), fun p6 H6 n6 s6 e6 => ?_⟩
    have bx6 := bx5.same s6
    have h6 := s6 _ _ h5
    refine ⟨_, _, _, _, rfl, rfl, h6, e6, by rw [ly]; show ys.length + 1 ≤ 100000; omega, fun q7 H7 s7 e7 => ?_⟩
    have bx7 := bx6.same s7
    have h7 := s7 _ _ h6
    refine ⟨_, rfl, _, rfl, _, rfl, _, _, rfl, h7, fun q8 H8 s8 e8 => ?_⟩
    have bx8 := bx7.same s8
    refine ⟨_, rfl, b, rfl, bx8.1, fun ov H9 hov bx9 => ⟨(by show 1 ≤ 100000; decide), fun p10 H10 n10 s10 e10 => ?_⟩⟩
    have bx10 := (bx8.trans bx9).same s10
    have n8 : q8 ≠ b := bx8.1.tup e8
    refine ⟨_, _, _, _, rfl, rfl, s10 _ _ (bx9.2 _ _ n8 e8), e10, (by have := hcut none (some pl); show _ + 1 ≤ 100000; omega), fun q11 H11 s11 e11 => ?_⟩
    have bx11 := bx10.same s11
    have h11 := bx11.2 _ _ na ha
    refine ⟨_, rfl, _, rfl, _, _, rfl, rfl, _, rfl, _, _, rfl, h11, fun q12 H12 s12 e12 => ?_⟩
    refine ⟨_, _, _, _, rfl, rfl, s12 _ _ e11, e12, (by have := h3l none (some pl) (some (pl + 1)) none ov; rw [List.length_append] at this; omega), fun q13 H13 s13 e13 => ⟨(by show 5 ≤ 100000; decide), fun f14 H14 n14 s14 e14 => ?_⟩⟩
    have bx13 := (bx11.same s12).same s13
    have bx14 := bx13.same s14
    have n14b : f14 ≠ b := BagAt.ne bx13.1 n14
    have F1 : ∀ u ∈ [.ref a, .ref p5, .ref sh, .ref q7, .ref q13], Tg b H14 u := by
      have t7 : Bx b H7 H14 := (((((bxs bx7.1 s8).trans bx9).same s10).same s11).same s12).same s13 |>.same s14
      have t4 : Bx b H4 H14 := (((bxs bx4.1 s5).same s6).same s7).trans t7
      have t5 : Bx b H5 H14 := ((bxs bx5.1 s6).same s7).trans t7
      have n5b : p5 ≠ b := BagAt.ne bx4.1 n5
      have t9 : Bx b H9 H14 := ((((bxs bx9.1 s10).same s11).same s12).same s13).same s14
      refine tg_cons (tg_tup (bx14.2 _ _ na ha) (by rw [ly]; omega) (it_ys hy)) (tg_cons (.inr (.inl ⟨p5, _, rfl, n5b, t5.2 _ _ n5b e5⟩)) (tg_cons (tg_tup (t4.2 _ _ (bx4.1.tup e4) e4) ?_ (it_app (it_cut hy _ _) (it_cut hy _ _))) (tg_cons (tg_tup (t7.2 _ _ (bx7.1.tup e7) e7) ?_ (it_app (it_ys hy) (it_one (It.str (by omega))))) (tg_cons (tg_tup (s14 _ _ e13) (h3l _ _ _ _ _) (it_app (it_app (it_cut hy _ _) (it_one (hov.bx bx9.1 t9).it)) (it_cut hy _ _))) tg_nil))))
      · have := hcut none (some pl)
        have := hcut (some (pl + 1)) none
        rw [List.length_append]
        omega
      · rw [List.length_append, ly]
        show ys.length + 1 ≤ 1000
        omega
    clear e13 e12 e11 e10 e8 e7 e6 e5 e4 e3 e2
    have LF0 : [V.ref a, V.ref p5, V.ref sh, V.ref q7, V.ref q13].length = 5 := rfl
    generalize [V.ref a, V.ref p5, V.ref sh, V.ref q7, V.ref q13] = F at e14 F1 LF0
    have LF : F.length ≤ 100 := by omega
    clear LF0
    -- found, the next three
    have h14 := bx14.2 _ _ na ha
    refine ⟨_, rfl, _, rfl, _, rfl, _, rfl, _, _, rfl, h14, fun q15 H15 s15 e15 => ?_⟩
    have h15 := s15 _ _ h14
    refine ⟨_, rfl, _, rfl, _, _, _, .str z, rfl, rfl, .inl (.inl h15), hv, _, _, rfl, rfl, sz (by show z.length + 1 ≤ 100000; omega), (by show 1 ≤ 100000; decide), fun p16 H16 n16 s16 e16 => ?_⟩
    refine ⟨_, _, _, _, rfl, rfl, s16 _ _ e15, e16, (by have := hcut none (some pl); show _ + 1 ≤ 100000; omega), fun q17 H17 s17 e17 => ?_⟩
    have h17 := s17 _ _ (s16 _ _ h15)
    refine ⟨_, rfl, _, rfl, _, _, rfl, rfl, _, rfl, _, _, rfl, h17, fun q18 H18 s18 e18 => ?_⟩
    refine ⟨_, _, _, _, rfl, rfl, s18 _ _ e17, e18, (by have := h3l none (some pl) (some (pl + 1)) none (.str (z ++ Str.ofString ".")); rw [List.length_append] at this; exact Nat.le_trans this (by decide)), fun q19 H19 s19 e19 => ?_⟩
    have h19 := s19 _ _ (s18 _ _ h17)
    refine ⟨_, rfl, _, rfl, _, _, _, .str z, rfl, rfl, .inl (.inl h19), hv, (by show 1 ≤ 100000; decide), fun p20 H20 n20 s20 e20 => ?_⟩
    refine ⟨_, _, _, rfl, rfl, e20, (fun e => nomatch e), by decide, by decide, (by show 1 ≤ 1000; decide), fun p21 H21 n21 s21 e21 => ?_⟩
    have h21 := s21 _ _ (s20 _ _ h19)
    refine ⟨_, rfl, _, rfl, _, _, _, .str z, rfl, rfl, .inl (.inl h21), hv, (by show 1 ≤ 100000; decide), fun p22 H22 n22 s22 e22 => ?_⟩
    refine ⟨_, _, _, rfl, rfl, e22, (fun e => nomatch e), by decide, by decide, (by show 1 ≤ 1000; decide), fun p23 H23 n23 s23 e23 => ⟨(by show 3 ≤ 100000; decide), fun l24 H24 n24 s24 e24 => ?_⟩⟩
    have s19to24 : Same H19 H24 := (((s20.trans s21).trans s22).trans s23).trans s24
    have s14to24 : Same H14 H24 := ((((s15.trans s16).trans s17).trans s18).trans s19).trans s19to24
    refine ⟨_, _, _, _, rfl, rfl, s14to24 _ _ e14, e24, (by show _ + 3 ≤ 100000; omega), fun f25 H25 n25 s25 e25 => ?_⟩
    have bx25 := (bx14.same s14to24).same s25
    have n25b : f25 ≠ b := BagAt.ne (bx14.same s14to24).1 n25
    have G1 : ∀ u ∈ F ++ [.ref q19, .ref p21, .ref p23], Tg b H25 u := by
      refine tg_app (fun u hu => (F1 u hu).bx bx14.1 ((bxs bx14.1 s14to24).same s25)) ?_
      refine tg_cons (tg_tup (s25 _ _ (s19to24 _ _ e19)) (h3l _ _ _ _ _) (it_app (it_app (it_cut hy _ _) (it_one (It.str ?_))) (it_cut hy _ _))) (tg_cons (tg_tup (s25 _ _ (s24 _ _ (s23 _ _ (s22 _ _ e21)))) (by rw [rep_len]; decide) (rep_it (It.str (by omega)) _)) (tg_cons (tg_tup (s25 _ _ (s24 _ _ e23)) (by rw [rep_len]; decide) (rep_it (It.str (by omega)) _)) tg_nil))
      show (z ++ Str.ofString ".").length ≤ 100000
      rw [app_len]
      show z.length + 1 ≤ 100000
      omega
    have LG : (F ++ [V.ref q19, V.ref p21, V.ref p23]).length ≤ 200 := by
      rw [List.length_append]
      show _ + 3 ≤ 200
      omega
    clear e24 e23 e22 e21 e20 e19 e18 e17 e16 e15 F1 e14
    generalize F ++ [V.ref q19, V.ref p21, V.ref p23] = G at e25 G1 LG
    -- found, the next three
    have h25 := bx25.2 _ _ na ha
    refine ⟨_, rfl, _, rfl, _, rfl, _, rfl, _, _, rfl, h25, fun q26 H26 s26 e26 => ?_⟩
    have h26 := s26 _ _ h25
    refine ⟨_, rfl, _, rfl, _, _, _, .str z, rfl, rfl, .inl (.inl h26), hv, z, rfl, by omega, fun p27 H27 n27 s27 e27 => ⟨(by show 1 ≤ 100000; decide), fun p28 H28 n28 s28 e28 => ?_⟩⟩
    refine ⟨_, _, _, _, rfl, rfl, s28 _ _ (s27 _ _ e26), e28, (by have := hcut none (some pl); show _ + 1 ≤ 100000; omega), fun q29 H29 s29 e29 => ?_⟩
    have h29 := s29 _ _ (s28 _ _ (s27 _ _ h26))
    refine ⟨_, rfl, _, rfl, _, _, rfl, rfl, _, rfl, _, _, rfl, h29, fun q30 H30 s30 e30 => ?_⟩
    refine ⟨_, _, _, _, rfl, rfl, s30 _ _ e29, e30, (by have := h3l none (some pl) (some (pl + 1)) none (.ref p27); rw [List.length_append] at this; exact Nat.le_trans this (by decide)), fun q31 H31 s31 e31 => ?_⟩
    have h31 := s31 _ _ (s30 _ _ h29)
    refine ⟨_, rfl, (by show 1 ≤ 100000; decide), fun p32 H32 n32 s32 e32 => ?_⟩
    refine ⟨⟨_, rfl⟩, _, rfl, _, _, ys, rfl, rfl, .inr (.inl (.inl (s32 _ _ h31))), ?_, (by show 3 ≤ 100000; decide), fun l33 H33 n33 s33 e33 => ?_⟩
    · have := sum_le hy
      show _ + ys.length * 1 ≤ 16777216
      omega
    have s25to33 : Same H25 H33 := ((((((s26.trans s27).trans s28).trans s29).trans s30).trans s31).trans s32).trans s33
    refine ⟨_, _, _, _, rfl, rfl, s25to33 _ _ e25, e33, (by show _ + 3 ≤ 100000; omega), fun f34 H34 n34 s34 e34 => ?_⟩
    have bx34 := (bx25.same s25to33).same s34
    have n34b : f34 ≠ b := BagAt.ne (bx25.same s25to33).1 n34
    have n27b : p27 ≠ b := BagAt.ne (bx25.same s26).1 n27
    have I1 : ∀ u ∈ G ++ [.ref q31, .ref p32, .str (Txt.join (Str.ofString "/") ys)], Tg b H34 u := by
      refine tg_app (fun u hu => (G1 u hu).bx bx25.1 ((bxs bx25.1 s25to33).same s34)) ?_
      have s27to34 : Same H27 H34 := ((((((s28.trans s29).trans s30).trans s31).trans s32).trans s33).trans s34)
      refine tg_cons (tg_tup (s34 _ _ (s33 _ _ (s32 _ _ e31))) (h3l _ _ _ _ _) (it_app (it_app (it_cut hy _ _) (it_one (.inr (.inl ⟨p27, _, rfl, n27b, s27to34 _ _ e27⟩)))) (it_cut hy _ _))) (tg_cons (tg_tup (s34 _ _ (s33 _ _ e32)) (by show 1 ≤ 1000; decide) (it_one (.inr (.inr ⟨a, _, rfl, s34 _ _ (s33 _ _ (s32 _ _ h31))⟩)))) (tg_cons (Tg.str ?_) tg_nil))
      exact join_le hy y1
    have LI : (G ++ [V.ref q31, V.ref p32, V.str (Txt.join (Str.ofString "/") ys)]).length ≤ 300 := by
      rw [List.length_append]
      show _ + 3 ≤ 300
      omega
    clear e33 e32 e31 e30 e29 e28 e27 e26 G1 e25
    generalize G ++ [V.ref q31, V.ref p32, V.str (Txt.join (Str.ofString "/") ys)] = J at e34 I1 LI
    -- the last three
    have h34 := bx34.2 _ _ na ha
    refine ⟨_, rfl, _, rfl, _, rfl, _, rfl, _, _, rfl, h34, fun q35 H35 s35 e35 => ?_⟩
    have h35 := s35 _ _ h34
    have lzc : (cutS z none (some (-1))).length ≤ 64 := cut_le z _ _ 64 lz
    refine ⟨_, rfl, _, rfl, _, _, _, .str z, rfl, rfl, .inl (.inl h35), hv, _, rfl, _, rfl, _, rfl, sz (by omega), _, _, rfl, rfl, sz (by show (cutS z none (some (-1))).length + 1 ≤ 100000; omega), (by show 1 ≤ 100000; decide), fun p36 H36 n36 s36 e36 => ?_⟩
    refine ⟨_, _, _, _, rfl, rfl, s36 _ _ e35, e36, (by have := hcut none (some pl); show _ + 1 ≤ 100000; omega), fun q37 H37 s37 e37 => ?_⟩
    have h37 := s37 _ _ (s36 _ _ h35)
    refine ⟨_, rfl, _, rfl, _, _, rfl, rfl, _, rfl, _, _, rfl, h37, fun q38 H38 s38 e38 => ?_⟩
    refine ⟨_, _, _, _, rfl, rfl, s38 _ _ e37, e38, (by have := h3l none (some pl) (some (pl + 1)) none (.str (cutS z none (some (-1)) ++ Str.ofString "+")); rw [List.length_append] at this; exact Nat.le_trans this (by decide)), fun q39 H39 s39 e39 => ?_⟩
    have s34to39 : Same H34 H39 := (((s35.trans s36).trans s37).trans s38).trans s39
    have bx39 := bx34.same s34to39
    refine ⟨_, rfl, b, rfl, bx39.1, fun ow H40 how bx40 => ⟨(by show 0 ≤ 100000; decide), fun p41 H41 n41 s41 e41 => ⟨(by show 3 ≤ 100000; decide), fun l42 H42 n42 s42 e42 => ?_⟩⟩⟩
    have t39 : Bx b H39 H42 := (bx40.same s41).same s42
    have t34 : Bx b H34 H42 := (bxs bx34.1 s34to39).trans t39
    refine ⟨_, _, _, _, rfl, rfl, t34.2 _ _ n34b e34, e42, (by show _ + 3 ≤ 100000; omega), fun f43 H43 n43 s43 e43 => ?_⟩
    have bx42 := bx34.trans t34
    have n43b : f43 ≠ b := BagAt.ne bx42.1 n43
    refine q f43 _ H43 n43b e43 ?_ (bx42.same s43)
    refine tg_app (fun u hu => (I1 u hu).bx bx34.1 (t34.same s43)) ?_
    refine tg_cons (tg_tup (s43 _ _ (t39.2 _ _ (bx39.1.tup e39) e39)) (h3l _ _ _ _ _) (it_app (it_app (it_cut hy _ _) (it_one (It.str ?_))) (it_cut hy _ _))) (tg_cons (how.bx bx40.1 (((bxs bx40.1 s41).same s42).same s43)) (tg_cons (tg_tup (s43 _ _ (s42 _ _ e41)) (by show 0 ≤ 1000; decide) (fun u hu => nomatch hu)) tg_nil))
    show (cutS z none (some (-1)) ++ Str.ofString "+").length ≤ 100000
    rw [app_len]
    show (cutS z none (some (-1))).length + 1 ≤ 100000
    omega
theorem it_is1 {b : Addr} {H : Hp} {v : V} (h : It b H v) : ∃ k, Is1 K H v k := by
  rcases h with (rfl | ⟨x, rfl⟩ | ⟨i, rfl⟩ | ⟨z, rfl, l⟩) | ⟨a, xs, rfl, n, e⟩ | ⟨a, xs, rfl, e⟩
  · exact ⟨.oth "NoneType", .non, by decide⟩
  · exact ⟨.oth "bool", .bl x, by decide⟩
  · exact ⟨.oth "int", .int i, by decide⟩
  · exact ⟨.txt z, rfl, l⟩
  · exact ⟨.oth "list", .lst e, by decide⟩
  · exact ⟨.oth "tuple", .tup e, by decide⟩
theorem its_pair {b : Addr} {H : Hp} : ∀ {xs : List V}, (∀ u ∈ xs, It b H u) → ∃ ks, Paired (Is1 K H) xs ks
  | [], _ => ⟨[], .nil⟩
  | x :: xs, h => by
    obtain ⟨k, hk⟩ := it_is1 (K := K) (h x (List.mem_cons_self ..))
    obtain ⟨ks, hks⟩ := its_pair (xs := xs) fun u hu => h u (List.mem_cons_of_mem _ hu)
    exact ⟨k :: ks, .cons hk hks⟩
theorem tg_isP {b : Addr} {H : Hp} {v : V} (h : Tg b H v) : ∃ o, IsP K H v o := by
  rcases h with (rfl | ⟨x, rfl⟩ | ⟨i, rfl⟩ | ⟨z, rfl, l⟩) | ⟨a, xs, rfl, n, e⟩ | ⟨a, xs, rfl, e, l, hx⟩
  · exact ⟨none, "NoneType", .non, by decide⟩
  · exact ⟨none, "bool", .bl x, by decide⟩
  · exact ⟨none, "int", .int i, by decide⟩
  · exact ⟨none, "str", .str z, by decide⟩
  · exact ⟨none, "list", .lst e, by decide⟩
  · obtain ⟨ks, hks⟩ := its_pair (K := K) hx
    exact ⟨some ks, a, xs, rfl, e, l, hks⟩
theorem isP_same {H H' : Hp} {v : V} {o : Option (List Kd)} (e : Same H H') (h : IsP K H v o) : IsP K H' v o := by
  cases o with
  | none =>
    obtain ⟨t, h1, h2⟩ := h
    exact ⟨t, tyOf_same e h1, h2⟩
  | some ks =>
    obtain ⟨a, xs, rfl, h1, h2, h3⟩ := h
    exact ⟨a, xs, rfl, e _ _ h1, h2, pair_same e h3⟩
def spSame : Sp := fun vs H Q _ => ∃ x : Bool, vs = [.bl x, .bl x] ∧ Q (.bl true) H
theorem ok_same {A : Ad} (T : Txt K mg A) : FnOk P w K mg base CX0 1 A.a_same A.d_same P_same spSame := by
  refine T.F_same.ok sc_same (fun vs H Q E h => ?_) (fun cdv Ar outer s H vs Q E hr h => ?_)
  · obtain ⟨x, rfl, _⟩ := h
    rfl
  · obtain ⟨x, rfl, q⟩ := h
    refine ⟨_, (pss_one (ps_ret (pe_and (pe_callB (r := rIsi K) call_isi (by rfl) T.z_isinstance (by decide +kernel) (pa_cons (pv 0) (pa_cons (pe_bltn (v := .ty "bool") (by rfl) T.z_bool (by decide +kernel) rfl) pa_nil))) (pe_one (pe_cmpR op_eq (pv 0) (pv 1) (nomark _)))))), ?_⟩
    refine ⟨_, rfl, _, _, _, _, true, rfl, ClsV.ty _, TyX.base (.bl _), kit_ty (by decide +kernel), true, rfl, ?_⟩
    refine ⟨_, rfl, _, rfl, rfl, ?_⟩
    rw [decide_eq_true rfl]
    exact q
def spLaw (K : PySem.W.Frag) : Sp := fun vs H Q _ => ∃ (a : Addr) (ns : List Int), vs = [.ref a] ∧ SqL K H a (ns.map V.int) ∧ ns.length ≤ 63 ∧ ∀ H', Q (.bl true) H'
theorem sV_strs (rows : List (List Nat)) : rows.map sV = (rows.map sOf).map V.str := by
  rw [List.map_map]
  rfl
theorem ok_law {A : Ad} (T : Txt K mg A) : FnOk P w K mg base CX0 4 A.a_law A.d_law P_law (spLaw K) := by
  have G_bag := ok_bag (P := P) (w := w) (base := base) T
  have G_page := ok_page (P := P) (w := w) (base := base) T
  have G_rows := ok_rows (P := P) (w := w) (base := base) T
  have G_pages := ok_pages (P := P) (w := w) (base := base) T
  have G_draw := ok_draw (P := P) (w := w) (base := base) T
  have G_same := ok_same (P := P) (w := w) (base := base) T
  have G_is_row := ok_is_row (P := P) (w := w) (base := base) T
  have G_is_row_l := ok_is_row_l (P := P) (w := w) (base := base) T
  have G_is_page := ok_is_page (P := P) (w := w) (base := base) T
  have G_is_page_l := ok_is_page_l (P := P) (w := w) (base := base) T
  refine T.F_law.ok sc_law (fun vs H Q E h => ?_) (fun cdv Ar outer s H vs Q E hr h => ?_)
  · obtain ⟨a, ns, rfl, _⟩ := h
    rfl
  · obtain ⟨a, ns, rfl, hS, ln, q⟩ := h
    refine ⟨_, (pss_cons (ps_for PassesOwn.never rfl (pi_range1 (by rfl) T.z_range (pa_cons (pe_callB (call_max2 rfl) (by rfl) T.z_max (by decide +kernel) (pa_cons pe_int (pa_cons (pe_callB (call_min2 rfl) (by rfl) T.z_min (by decide +kernel) (pa_cons pe_int (pa_cons (pe_callB (r := fun xs H Q => ∃ p ys, xs = [.ref p] ∧ (SqL K H p ys ∨ SqT K H p ys) ∧ Q (.int ys.length) H) call_len_seq (by rfl) T.z_len PySem.boot_len (pa_cons (pv 0) pa_nil)) pa_nil))) pa_nil))) pa_nil)) (pg_name (i := 1) sc_law.nd rfl (Or.inl rfl))
      (pss_cons (ps_set (i := 2) sc_law.nd rfl (Or.inl rfl) (pe_call G_bag (hr.mono (by decide)) (by rfl) T.g_bag T.F_bag.kp T.b_bag .nil pass0 (pa_cons (pv 0) (pa_cons (pv 1) pa_nil))))
      (pss_cons (ps_set (i := 3) sc_law.nd rfl (Or.inl rfl) (pe_call G_page (hr.mono (by decide)) (by rfl) T.g_page T.F_page.kp T.b_page .nil pass0 (pa_cons (pv 2) (pa_cons pe_int (pa_cons pe_int pa_nil)))))
      (pss_cons (ps_for PassesOwn.never rfl (pi_list (pe_call G_rows (hr.mono (by decide)) (by rfl) T.g_rows T.F_rows.kp T.b_rows .nil pass0 (pa_cons (pv 2) (pa_cons (pe_ix (r := rIxT K) ix_tup (pv 3) (pe_call G_draw (hr.mono (by decide)) (by rfl) T.g_draw T.F_draw.kp T.b_draw .nil pass0 (pa_cons (pv 2) (pa_cons (pe_callB (r := fun xs H Q => ∃ p ys, xs = [.ref p] ∧ (SqL K H p ys ∨ SqT K H p ys) ∧ Q (.int ys.length) H) call_len_seq (by rfl) T.z_len PySem.boot_len (pa_cons (pv 3) pa_nil)) pa_nil))) (fun _ _ => rfl)) pa_nil)))) (pg_name (i := 4) sc_law.nd rfl (Or.inl rfl))
      (pss_one (ps_if (pt_not (pt_val (pe_call G_same (hr.mono (by decide)) (by rfl) T.g_same T.F_same.kp T.b_same .nil pass0 (pa_cons (pe_call G_is_row (hr.mono (by decide)) (by rfl) T.g_is_row T.F_is_row.kp T.b_is_row .nil pass0 (pa_cons (pv 4) pa_nil)) (pa_cons (pe_call G_is_row_l (hr.mono (by decide)) (by rfl) T.g_is_row_l T.F_is_row_l.kp T.b_is_row_l .nil pass0 (pa_cons (pv 4) pa_nil)) pa_nil)))))
      (pss_one (ps_ret pe_bl)) pss_nil)))
      (pss_one (ps_for PassesOwn.never rfl (pi_list (pe_call G_pages (hr.mono (by decide)) (by rfl) T.g_pages T.F_pages.kp T.b_pages .nil pass0 (pa_cons (pv 2) (pa_cons (pv 3) pa_nil)))) (pg_name (i := 4) sc_law.nd rfl (Or.inl rfl))
      (pss_one (ps_if (pt_not (pt_val (pe_call G_same (hr.mono (by decide)) (by rfl) T.g_same T.F_same.kp T.b_same .nil pass0 (pa_cons (pe_call G_is_page (hr.mono (by decide)) (by rfl) T.g_is_page T.F_is_page.kp T.b_is_page .nil pass0 (pa_cons (pv 4) pa_nil)) (pa_cons (pe_call G_is_page_l (hr.mono (by decide)) (by rfl) T.g_is_page_l T.F_is_page_l.kp T.b_is_page_l .nil pass0 (pa_cons (pv 4) pa_nil)) pa_nil)))))
      (pss_one (ps_ret pe_bl)) pss_nil))))))))
      (pss_one (ps_ret pe_bl))), ?_⟩
    refine ⟨_, rfl, _, _, rfl, .inl hS, _, _, rfl, _, _, rfl, _, rfl, ?_, ?_, for_range (fun i σ H' => ∃ y1 y2 y3 y4, σ = [some (.ref a), y1, y2, y3, y4] ∧ Same H H') ⟨none, none, none, none, rfl, Same.refl H⟩ ?_ ?_⟩
    · rw [List.length_map]
      split <;> split <;> omega
    · rw [List.length_map]
      split <;> split <;> omega
    · rintro i σ H1 hi ⟨y1, y2, y3, y4, rfl, sm⟩
      have hi8 : i < 8 := by
        rw [List.length_map] at hi
        revert hi
        split <;> split <;> omega
      refine ⟨_, rfl, _, rfl, a, ns, _, rfl, sm.seq hS, by omega, by omega, fun b g s hb g0 s0 s1 => ?_⟩
      have B0 : BagAt (upd H1 b (.lst [.int g, .int s])) b := BagAt.new g0 s0 s1
      refine ⟨_, rfl, b, 64, 24, rfl, B0, by decide, by decide, by decide, by decide, fun p rows n H2 n0 n1 r0 r1 gr fp hp bx1 => ?_⟩
      have np : p ≠ b := bx1.1.tup hp
      have lr : (rows.map sV).length = rows.length := List.length_map ..
      refine ⟨_, rfl, _, rfl, _, rfl, _, rfl, _, _, rfl, .inr (.inl (.inl hp)), b, _, rfl, bx1.1, by rw [lr]; omega, by rw [lr]; omega, fun j H3 j0 j1 bx2 => ?_⟩
      obtain ⟨v, hv, mv⟩ := pick_at (xs := rows.map sV) j0 j1
      obtain ⟨r, mr, rfl⟩ := List.mem_map.mp mv
      have lrr : (sOf r).length = n := by rw [sOf_len]; exact (gr r mr).1
      refine ⟨_, _, _, sV r, rfl, rfl, .inl (.inl (bx2.2 _ _ np hp)), hv, b, sOf r, rfl, bx2.1, by omega, by omega, fun l xs H4 nl el tg bx3 => ?_⟩
      refine ⟨l, rfl, ⟨_, SqL.of el⟩, for_list (K := K) (a := l) (xs := xs) (fun _ σ H' => ∃ y4, σ = [some (.ref a), some (.int (0 + (i : Int))), some (.ref b), some (.ref p), y4] ∧ Same H4 H') ⟨y4, rfl, Same.refl _⟩ (fun i σ H' _ ⟨_, _, s2⟩ => SqL.of (s2 _ _ el)) ?_ ?_⟩
      · rintro k x σ H5 hx ⟨y4, rfl, s5⟩
        obtain ⟨kd, hk⟩ := it_is1 (K := K) (tg x (List.mem_of_getElem? hx)).it
        have hk5 := is1_same s5 hk
        refine ⟨_, rfl, x, kd, rfl, hk5, fun H6 s6 => ⟨_, rfl, x, kd, rfl, is1_same s6 hk5, isRowK kd, rfl, _, rfl, ?_⟩⟩
        exact ⟨_, rfl, s5.trans s6⟩
      · rintro σ H5 ⟨y4, rfl, s5⟩
        have bx5 : Bx b (upd H1 b (.lst [.int g, .int s])) H5 := ((bx1.trans bx2).trans bx3).same s5
        have hp5 : H5 p = some (.tup ((rows.map sOf).map V.str)) := by
          rw [← sV_strs]
          exact s5 _ _ (bx3.2 _ _ np (bx2.2 _ _ np hp))
        refine ⟨_, rfl, _, rfl, b, p, rows.map sOf, rfl, bx5.1, hp5, by rw [List.length_map]; exact r0, by rw [List.length_map]; exact r1, fun z hz => ?_, fun l2 xs2 H6 nl2 el2 tg2 bx6 => ?_⟩
        · obtain ⟨r2, m2, rfl⟩ := List.mem_map.mp hz
          rw [sOf_len, (gr r2 m2).1]
          exact n1
        · refine ⟨l2, rfl, ⟨_, SqL.of el2⟩, for_list (K := K) (a := l2) (xs := xs2) (fun _ σ H' => ∃ y4, σ = [some (.ref a), some (.int (0 + (i : Int))), some (.ref b), some (.ref p), y4] ∧ Same H6 H') ⟨y4, rfl, Same.refl _⟩ (fun i σ H' _ ⟨_, _, s2⟩ => SqL.of (s2 _ _ el2)) ?_ ?_⟩
          · rintro k x σ H7 hx ⟨y4, rfl, s7⟩
            obtain ⟨o, hk⟩ := tg_isP (K := K) (tg2 x (List.mem_of_getElem? hx))
            have hk7 := isP_same s7 hk
            refine ⟨_, rfl, x, o, rfl, hk7, fun H8 s8 => ⟨_, rfl, x, o, rfl, isP_same s8 hk7, isPageO o, rfl, _, rfl, ?_⟩⟩
            exact ⟨_, rfl, s7.trans s8⟩
          · rintro σ H7 ⟨y4, rfl, s7⟩
            exact ⟨_, _, _, _, rfl, sm.trans (((bx5.trans bx6).same s7).back (same_new hb) hb)⟩
    · rintro σ H1 ⟨y1, y2, y3, y4, rfl, sm⟩
      exact q _
end
theorem all_mk {l : PySem.W.OpenLaw} {w : World} {K : PySem.W.Frag} {h : Heap} {mg : Str → Option Value} {fa : Addr} (X : K.In h) (G : h.Ns mainGlobals mg) (hfa : mg "law" = some (.ref fa))
    {f0 f1 f2 f3 f4 f5 f6 f7 f8 f9 f10 f11 f12 f13 : Addr}
    {od0 an0 od1 an1 od2 an2 od3 an3 od4 an4 od5 an5 od6 an6 od7 an7 od8 an8 od9 an9 od10 an10 od11 an11 od12 an12 od13 an13 : Option Addr}
    {sl0 sl1 sl2 sl3 sl4 sl5 sl6 sl7 sl8 sl9 sl10 sl11 sl12 sl13 : Array (Option Value)}
    {oc0 kV0 dc0 pm0 cd0 ct0 oc1 kV1 dc1 pm1 cd1 ct1 oc2 kV2 dc2 pm2 cd2 ct2 oc3 kV3 dc3 pm3 cd3 ct3 oc4 kV4 dc4 pm4 cd4 ct4 oc5 kV5 dc5 pm5 cd5 ct5 oc6 kV6 dc6 pm6 cd6 ct6 oc7 kV7 dc7 pm7 cd7 ct7 oc8 kV8 dc8 pm8 cd8 ct8 oc9 kV9 dc9 pm9 cd9 ct9 oc10 kV10 dc10 pm10 cd10 ct10 oc11 kV11 dc11 pm11 cd11 ct11 oc12 kV12 dc12 pm12 cd12 ct12 oc13 kV13 dc13 pm13 cd13 ct13 : Value}
    {t_DARK : Tok}
    {t_LEAST_BREADTH : Tok}
    {t_LIGHT : Tok}
    {t_MOST_BREADTH : Tok}
    {t_MOST_ROWS : Tok}
    (a0 : PySem.W.nsIn K mainGlobals "is_row" = some (some (.ref f0))) (l0 : K.lookup f0 = some ⟨oc0, od0, .func (PySem.W.fnOf "is_row" "is_row" (defArgs s_is_row) (defBody s_is_row) (defScope s_is_row) .none kV0 dc0 pm0 an0 cd0 ct0), sl0⟩) (c0 : PySem.W.codeIn K cd0 "is_row" = true) (k0 : PySem.W.keepIn K (.ref f0) = true)
    (a1 : PySem.W.nsIn K mainGlobals "is_page" = some (some (.ref f1))) (l1 : K.lookup f1 = some ⟨oc1, od1, .func (PySem.W.fnOf "is_page" "is_page" (defArgs s_is_page) (defBody s_is_page) (defScope s_is_page) .none kV1 dc1 pm1 an1 cd1 ct1), sl1⟩) (c1 : PySem.W.codeIn K cd1 "is_page" = true) (k1 : PySem.W.keepIn K (.ref f1) = true)
    (a2 : PySem.W.nsIn K mainGlobals "_law_bag" = some (some (.ref f2))) (l2 : K.lookup f2 = some ⟨oc2, od2, .func (PySem.W.fnOf "_law_bag" "_law_bag" (defArgs s_bag) (defBody s_bag) (defScope s_bag) .none kV2 dc2 pm2 an2 cd2 ct2), sl2⟩) (c2 : PySem.W.codeIn K cd2 "_law_bag" = true) (k2 : PySem.W.keepIn K (.ref f2) = true)
    (a3 : PySem.W.nsIn K mainGlobals "_law_draw" = some (some (.ref f3))) (l3 : K.lookup f3 = some ⟨oc3, od3, .func (PySem.W.fnOf "_law_draw" "_law_draw" (defArgs s_draw) (defBody s_draw) (defScope s_draw) .none kV3 dc3 pm3 an3 cd3 ct3), sl3⟩) (c3 : PySem.W.codeIn K cd3 "_law_draw" = true) (k3 : PySem.W.keepIn K (.ref f3) = true)
    (a4 : PySem.W.nsIn K mainGlobals "_law_row" = some (some (.ref f4))) (l4 : K.lookup f4 = some ⟨oc4, od4, .func (PySem.W.fnOf "_law_row" "_law_row" (defArgs s_row) (defBody s_row) (defScope s_row) .none kV4 dc4 pm4 an4 cd4 ct4), sl4⟩) (c4 : PySem.W.codeIn K cd4 "_law_row" = true) (k4 : PySem.W.keepIn K (.ref f4) = true)
    (a5 : PySem.W.nsIn K mainGlobals "_law_page" = some (some (.ref f5))) (l5 : K.lookup f5 = some ⟨oc5, od5, .func (PySem.W.fnOf "_law_page" "_law_page" (defArgs s_page) (defBody s_page) (defScope s_page) .none kV5 dc5 pm5 an5 cd5 ct5), sl5⟩) (c5 : PySem.W.codeIn K cd5 "_law_page" = true) (k5 : PySem.W.keepIn K (.ref f5) = true)
    (a6 : PySem.W.nsIn K mainGlobals "_law_signs" = some (some (.ref f6))) (l6 : K.lookup f6 = some ⟨oc6, od6, .func (PySem.W.fnOf "_law_signs" "_law_signs" (defArgs s_signs) (defBody s_signs) (defScope s_signs) .none kV6 dc6 pm6 an6 cd6 ct6), sl6⟩) (c6 : PySem.W.codeIn K cd6 "_law_signs" = true) (k6 : PySem.W.keepIn K (.ref f6) = true)
    (a7 : PySem.W.nsIn K mainGlobals "_law_is_row" = some (some (.ref f7))) (l7 : K.lookup f7 = some ⟨oc7, od7, .func (PySem.W.fnOf "_law_is_row" "_law_is_row" (defArgs s_is_row_l) (defBody s_is_row_l) (defScope s_is_row_l) .none kV7 dc7 pm7 an7 cd7 ct7), sl7⟩) (c7 : PySem.W.codeIn K cd7 "_law_is_row" = true) (k7 : PySem.W.keepIn K (.ref f7) = true)
    (a8 : PySem.W.nsIn K mainGlobals "_law_is_page" = some (some (.ref f8))) (l8 : K.lookup f8 = some ⟨oc8, od8, .func (PySem.W.fnOf "_law_is_page" "_law_is_page" (defArgs s_is_page_l) (defBody s_is_page_l) (defScope s_is_page_l) .none kV8 dc8 pm8 an8 cd8 ct8), sl8⟩) (c8 : PySem.W.codeIn K cd8 "_law_is_page" = true) (k8 : PySem.W.keepIn K (.ref f8) = true)
    (a9 : PySem.W.nsIn K mainGlobals "_law_odd" = some (some (.ref f9))) (l9 : K.lookup f9 = some ⟨oc9, od9, .func (PySem.W.fnOf "_law_odd" "_law_odd" (defArgs s_odd) (defBody s_odd) (defScope s_odd) .none kV9 dc9 pm9 an9 cd9 ct9), sl9⟩) (c9 : PySem.W.codeIn K cd9 "_law_odd" = true) (k9 : PySem.W.keepIn K (.ref f9) = true)
    (a10 : PySem.W.nsIn K mainGlobals "_law_rows" = some (some (.ref f10))) (l10 : K.lookup f10 = some ⟨oc10, od10, .func (PySem.W.fnOf "_law_rows" "_law_rows" (defArgs s_rows) (defBody s_rows) (defScope s_rows) .none kV10 dc10 pm10 an10 cd10 ct10), sl10⟩) (c10 : PySem.W.codeIn K cd10 "_law_rows" = true) (k10 : PySem.W.keepIn K (.ref f10) = true)
    (a11 : PySem.W.nsIn K mainGlobals "_law_pages" = some (some (.ref f11))) (l11 : K.lookup f11 = some ⟨oc11, od11, .func (PySem.W.fnOf "_law_pages" "_law_pages" (defArgs s_pages) (defBody s_pages) (defScope s_pages) .none kV11 dc11 pm11 an11 cd11 ct11), sl11⟩) (c11 : PySem.W.codeIn K cd11 "_law_pages" = true) (k11 : PySem.W.keepIn K (.ref f11) = true)
    (a12 : PySem.W.nsIn K mainGlobals "_law_same" = some (some (.ref f12))) (l12 : K.lookup f12 = some ⟨oc12, od12, .func (PySem.W.fnOf "_law_same" "_law_same" (defArgs s_same) (defBody s_same) (defScope s_same) .none kV12 dc12 pm12 an12 cd12 ct12), sl12⟩) (c12 : PySem.W.codeIn K cd12 "_law_same" = true) (k12 : PySem.W.keepIn K (.ref f12) = true)
    (a13 : PySem.W.nsIn K mainGlobals "law" = some (some (.ref f13))) (l13 : K.lookup f13 = some ⟨oc13, od13, .func (PySem.W.fnOf "law" "law" (defArgs s_law) (defBody s_law) (defScope s_law) .none kV13 dc13 pm13 an13 cd13 ct13), sl13⟩) (c13 : PySem.W.codeIn K cd13 "law" = true) (k13 : PySem.W.keepIn K (.ref f13) = true)
    (z_abs : PySem.W.nsIn K mainGlobals "abs" = some none)
    (z_all : PySem.W.nsIn K mainGlobals "all" = some none)
    (z_bool : PySem.W.nsIn K mainGlobals "bool" = some none)
    (z_isinstance : PySem.W.nsIn K mainGlobals "isinstance" = some none)
    (z_len : PySem.W.nsIn K mainGlobals "len" = some none)
    (z_list : PySem.W.nsIn K mainGlobals "list" = some none)
    (z_max : PySem.W.nsIn K mainGlobals "max" = some none)
    (z_min : PySem.W.nsIn K mainGlobals "min" = some none)
    (z_range : PySem.W.nsIn K mainGlobals "range" = some none)
    (z_str : PySem.W.nsIn K mainGlobals "str" = some none)
    (z_tuple : PySem.W.nsIn K mainGlobals "tuple" = some none)
    (m_DARK : PySem.W.nsIn K mainGlobals "DARK" = some (some (.str "#" t_DARK)))
    (m_LEAST_BREADTH : PySem.W.nsIn K mainGlobals "LEAST_BREADTH" = some (some (.int 8 t_LEAST_BREADTH)))
    (m_LIGHT : PySem.W.nsIn K mainGlobals "LIGHT" = some (some (.str "." t_LIGHT)))
    (m_MOST_BREADTH : PySem.W.nsIn K mainGlobals "MOST_BREADTH" = some (some (.int 64 t_MOST_BREADTH)))
    (m_MOST_ROWS : PySem.W.nsIn K mainGlobals "MOST_ROWS" = some (some (.int 24 t_MOST_ROWS)))
    : ∃ fd : FuncData, (∀ (s : Shared) (v : Value), BindsTo s fd ⟨[v], []⟩ [("_law_script", v)]) ∧ ∀ base : Heap, K.In base → base.Ns mainGlobals mg → FnOk l.prog w K mg base CX0 4 fa fd ["_law_script"] (spLaw K) := by
  have e := hfa.symm.trans (PySem.W.mg_of X G a13)
  cases e
  have F0 := fun_mk (st := s_is_row) l0 c0 k0
  have b0 := F0.binds (ps := P_is_row) fun _ _ _ _ _ _ us hl => match us, hl with | [_], _ => rfl
  have F1 := fun_mk (st := s_is_page) l1 c1 k1
  have b1 := F1.binds (ps := P_is_page) fun _ _ _ _ _ _ us hl => match us, hl with | [_], _ => rfl
  have F2 := fun_mk (st := s_bag) l2 c2 k2
  have b2 := F2.binds (ps := P_bag) fun _ _ _ _ _ _ us hl => match us, hl with | [_, _], _ => rfl
  have F3 := fun_mk (st := s_draw) l3 c3 k3
  have b3 := F3.binds (ps := P_draw) fun _ _ _ _ _ _ us hl => match us, hl with | [_, _], _ => rfl
  have F4 := fun_mk (st := s_row) l4 c4 k4
  have b4 := F4.binds (ps := P_row) fun _ _ _ _ _ _ us hl => match us, hl with | [_, _, _], _ => rfl
  have F5 := fun_mk (st := s_page) l5 c5 k5
  have b5 := F5.binds (ps := P_page) fun _ _ _ _ _ _ us hl => match us, hl with | [_, _, _], _ => rfl
  have F6 := fun_mk (st := s_signs) l6 c6 k6
  have b6 := F6.binds (ps := P_signs) fun _ _ _ _ _ _ us hl => match us, hl with | [], _ => rfl
  have F7 := fun_mk (st := s_is_row_l) l7 c7 k7
  have b7 := F7.binds (ps := P_is_row_l) fun _ _ _ _ _ _ us hl => match us, hl with | [_], _ => rfl
  have F8 := fun_mk (st := s_is_page_l) l8 c8 k8
  have b8 := F8.binds (ps := P_is_page_l) fun _ _ _ _ _ _ us hl => match us, hl with | [_], _ => rfl
  have F9 := fun_mk (st := s_odd) l9 c9 k9
  have b9 := F9.binds (ps := P_odd) fun _ _ _ _ _ _ us hl => match us, hl with | [_], _ => rfl
  have F10 := fun_mk (st := s_rows) l10 c10 k10
  have b10 := F10.binds (ps := P_rows) fun _ _ _ _ _ _ us hl => match us, hl with | [_, _], _ => rfl
  have F11 := fun_mk (st := s_pages) l11 c11 k11
  have b11 := F11.binds (ps := P_pages) fun _ _ _ _ _ _ us hl => match us, hl with | [_, _], _ => rfl
  have F12 := fun_mk (st := s_same) l12 c12 k12
  have b12 := F12.binds (ps := P_same) fun _ _ _ _ _ _ us hl => match us, hl with | [_, _], _ => rfl
  have F13 := fun_mk (st := s_law) l13 c13 k13
  have T : Txt K mg ⟨f0, _, f1, _, f2, _, f3, _, f4, _, f5, _, f6, _, f7, _, f8, _, f9, _, f10, _, f11, _, f12, _, fa, _, t_DARK, t_LEAST_BREADTH, t_LIGHT, t_MOST_BREADTH, t_MOST_ROWS⟩ := ⟨F0, b0, PySem.W.mg_of X G a0, F1, b1, PySem.W.mg_of X G a1, F2, b2, PySem.W.mg_of X G a2, F3, b3, PySem.W.mg_of X G a3, F4, b4, PySem.W.mg_of X G a4, F5, b5, PySem.W.mg_of X G a5, F6, b6, PySem.W.mg_of X G a6, F7, b7, PySem.W.mg_of X G a7, F8, b8, PySem.W.mg_of X G a8, F9, b9, PySem.W.mg_of X G a9, F10, b10, PySem.W.mg_of X G a10, F11, b11, PySem.W.mg_of X G a11, F12, b12, PySem.W.mg_of X G a12, F13, PySem.W.mg_of X G a13, PySem.W.mg_none_of X G z_abs, PySem.W.mg_none_of X G z_all, PySem.W.mg_none_of X G z_bool, PySem.W.mg_none_of X G z_isinstance, PySem.W.mg_none_of X G z_len, PySem.W.mg_none_of X G z_list, PySem.W.mg_none_of X G z_max, PySem.W.mg_none_of X G z_min, PySem.W.mg_none_of X G z_range, PySem.W.mg_none_of X G z_str, PySem.W.mg_none_of X G z_tuple, PySem.W.mg_of X G m_DARK, PySem.W.mg_of X G m_LEAST_BREADTH, PySem.W.mg_of X G m_LIGHT, PySem.W.mg_of X G m_MOST_BREADTH, PySem.W.mg_of X G m_MOST_ROWS⟩
  exact ⟨_, fun s v => .of_eq rfl, fun base _ _ => ok_law T⟩
end K01
open PySem PySem.W PyProof.Rows
set_option maxHeartbeats 0 in
theorem PySem.Challenge.cw_farpage_k01_rows_and_pages_known_holds : PySem.Challenge.rw_farpage_k01_rows_and_pages_known.Holds := by
  w_on; o_law; k_head; (case hw => w_witness2)
  k_fill
  refine L2.walk_of (l := PySem.Challenge.rw_farpage_k01_rows_and_pages_known) (n := 63) (k := 4) (x := "_law_script") (CX := fun _ => L2.CX0) (sp := fun w => K01.spLaw _) rfl (by decide) rfl ⟨rfl, by decide, by decide⟩ (fun w h Y => PySem.W.kIn_of Y) ?F (fun _ _ a ns hl _ hS => ⟨a, ns, rfl, hS, hl, fun _ => rfl⟩) (fun _ _ _ _ _ h => h)
  case F =>
    intro w mg fa h KX G hmg
    refine' K01.all_mk KX G hmg ?a0 ?l0 ?c0 ?k0 ?a1 ?l1 ?c1 ?k1 ?a2 ?l2 ?c2 ?k2 ?a3 ?l3 ?c3 ?k3 ?a4 ?l4 ?c4 ?k4 ?a5 ?l5 ?c5 ?k5 ?a6 ?l6 ?c6 ?k6 ?a7 ?l7 ?c7 ?k7 ?a8 ?l8 ?c8 ?k8 ?a9 ?l9 ?c9 ?k9 ?a10 ?l10 ?c10 ?k10 ?a11 ?l11 ?c11 ?k11 ?a12 ?l12 ?c12 ?k12 ?a13 ?l13 ?c13 ?k13 ?z_abs ?z_all ?z_bool ?z_isinstance ?z_len ?z_list ?z_max ?z_min ?z_range ?z_str ?z_tuple ?m_DARK ?m_LEAST_BREADTH ?m_LIGHT ?m_MOST_BREADTH ?m_MOST_ROWS
    (case a0 => k_is)
    (case l0 => k_is)
    (case c0 => k_is)
    (case k0 => k_is)
    (case a1 => k_is)
    (case l1 => k_is)
    (case c1 => k_is)
    (case k1 => k_is)
    (case a2 => k_is)
    (case l2 => k_is)
    (case c2 => k_is)
    (case k2 => k_is)
    (case a3 => k_is)
    (case l3 => k_is)
    (case c3 => k_is)
    (case k3 => k_is)
    (case a4 => k_is)
    (case l4 => k_is)
    (case c4 => k_is)
    (case k4 => k_is)
    (case a5 => k_is)
    (case l5 => k_is)
    (case c5 => k_is)
    (case k5 => k_is)
    (case a6 => k_is)
    (case l6 => k_is)
    (case c6 => k_is)
    (case k6 => k_is)
    (case a7 => k_is)
    (case l7 => k_is)
    (case c7 => k_is)
    (case k7 => k_is)
    (case a8 => k_is)
    (case l8 => k_is)
    (case c8 => k_is)
    (case k8 => k_is)
    (case a9 => k_is)
    (case l9 => k_is)
    (case c9 => k_is)
    (case k9 => k_is)
    (case a10 => k_is)
    (case l10 => k_is)
    (case c10 => k_is)
    (case k10 => k_is)
    (case a11 => k_is)
    (case l11 => k_is)
    (case c11 => k_is)
    (case k11 => k_is)
    (case a12 => k_is)
    (case l12 => k_is)
    (case c12 => k_is)
    (case k12 => k_is)
    (case a13 => k_is)
    (case l13 => k_is)
    (case c13 => k_is)
    (case k13 => k_is)
    (case z_abs => k_is)
    (case z_all => k_is)
    (case z_bool => k_is)
    (case z_isinstance => k_is)
    (case z_len => k_is)
    (case z_list => k_is)
    (case z_max => k_is)
    (case z_min => k_is)
    (case z_range => k_is)
    (case z_str => k_is)
    (case z_tuple => k_is)
    (case m_DARK => k_is)
    (case m_LEAST_BREADTH => k_is)
    (case m_LIGHT => k_is)
    (case m_MOST_BREADTH => k_is)
    (case m_MOST_ROWS => k_is)
