import PyProof.Rows.All
import Wide.All
import OpenK.AllK
import Wide.FinOn
import HandS.ForMost
import HandS.IsInst
import HandS.StrMore
import HandS.Codes
import HandS.Evl
import HandS.TupAny
import HandS.TupMul
import HandS.Walk
import PyProof.Rows.StrJoinRep
import HandS.Lambda
import HandS.EndTab
import HandS.Conv
import KE.SortKeyHeap
import HandS.HotCalls
import HandS.ExcIs
import HandS.Comp
import HandS.WordsExc
import HandS.More
import PySem.Challenge.RW_farpage_k05_words_by_lengths
set_option Elab.async false
set_option linter.all false
set_option maxRecDepth 100000
set_option maxHeartbeats 4000000
/-! Rules of our own over the hand layer: a sign times an int, list(text), ljust with a sign. -/
namespace Fp
open PySem L2 PyProof.Rows
/-- a text by its codes -/
def sOf (l : List Nat) : Str := ⟨l.toArray⟩
theorem sOf_list (l : List Nat) : (sOf l).cps.toList = l := by simp [sOf]
theorem sOf_len (l : List Nat) : (sOf l).length = l.length := by simp [sOf, Str.length]
theorem of_list {z : Str} {l : List Nat} (h : z.cps.toList = l) : z = sOf l := str_of_list (by rw [h, sOf_list])
theorem sOf_inj {l m : List Nat} (h : sOf l = sOf m) : l = m := by
  have := congrArg (fun z => z.cps.toList) h
  simpa [sOf] using this
theorem sOf_app (l m : List Nat) : sOf l ++ sOf m = sOf (l ++ m) := by
  apply of_list
  show ((sOf l) ++ (sOf m)).cps.toList = l ++ m
  rw [show ((sOf l) ++ (sOf m)).cps = (sOf l).cps ++ (sOf m).cps from rfl]
  simp [sOf]
section
variable {X : Cx}
theorem op_mul_str : OpR X (binaryOp .Mult) (fun x y H Q => ∃ c n, x = .str (sOf [c]) ∧ y = .int n ∧ (-100000 ≤ n ∧ n ≤ 100000) ∧ Q (.str (sOf (List.replicate n.toNat c))) H) := by
  intro pins s σ H x y v u Q I rx ry h
  obtain ⟨c, n, rfl, rfl, hz, q⟩ := h
  obtain ⟨t, rfl⟩ := rx
  obtain ⟨t', rfl⟩ := ry
  refine SB.mul (mulOk_of 1 100000 (by rw [sOf_len]; exact Nat.le_refl _) (by omega) (by omega) (by decide) (by decide)) fun t' k => ?_
  have e : Txt.mul (sOf [c]) n = sOf (List.replicate n.toNat c) := of_list (mul_one_list c n)
  rw [e]
  exact ⟨.str (sOf (List.replicate n.toNat c)), H, I.tok _, ⟨_, rfl⟩, q⟩
theorem padOk {i : Int} (h0 : 0 ≤ i) (h1 : i ≤ 100000) : PadOk i = true := padOk_of (by omega) (by omega)
theorem mt_ljustF : MtR X "str.ljust" (fun x xs H Q => ∃ (l : List Nat) (i : Int) (c : Nat), x = .str (sOf l) ∧ xs = [.int i, .str (sOf [c])] ∧ (0 ≤ i ∧ i ≤ 100000) ∧ Q (.str (sOf (l ++ List.replicate (i.toNat - l.length) c))) H) := by
  intro pins s σ H x xs v us Q I rx rs h
  obtain ⟨l, i, c, rfl, rfl, hz, q⟩ := h
  obtain ⟨t, rfl⟩ := rx
  obtain ⟨u, w', rfl, ⟨t', rfl⟩, ⟨t'', rfl⟩⟩ := vals2 rs
  refine ljust_fill (padOk hz.1 hz.2) (sOf_len _) fun t' k => ?_
  have e : Txt.ljustF (sOf l) i ((sOf [c]).cps.getD 0 0) = sOf (l ++ List.replicate (i.toNat - l.length) c) := of_list (by
    rw [ljustF_list, sOf_list, sOf_len]
    rfl)
  rw [e]
  exact ⟨.str (sOf (l ++ List.replicate (i.toNat - l.length) c)), H, I.tok _, ⟨_, rfl⟩, q⟩
theorem vals_signs {acc : List Value} {l : List Nat} (h1 : acc.length = l.length) (h2 : ∀ (j : Nat) v, acc[j]? = some v → ∃ c u, l[j]? = some c ∧ v = .str ⟨#[c]⟩ u) : Vals (l.map fun c => V.str (sOf [c])) acc := by
  induction l generalizing acc with
  | nil =>
    cases acc with
    | nil => exact .nil
    | cons a r => simp at h1
  | cons c r ih =>
    cases acc with
    | nil => simp at h1
    | cons a b =>
      obtain ⟨c', u, e, rfl⟩ := h2 0 a rfl
      have e2 : c' = c := by simpa using e.symm
      subst e2
      exact .cons ⟨u, rfl⟩ (ih (by simpa using h1) fun j v hj => h2 (j + 1) v hj)
theorem call_list_str (hc : X.calm = true) : CallR X (.type "list") (fun xs H Q => ∃ z : List Nat, xs = [.str (sOf z)] ∧ z.length ≤ 100000 ∧ ∀ l, H l = none → Q (.ref l) (upd H l (.lst (z.map fun c => V.str (sOf [c]))))) := by
  intro pins s σ H xs us Q I r h
  obtain ⟨z, rfl, hz, q⟩ := h
  obtain ⟨u, rfl, t, rfl⟩ := vals1 r
  have hl : z.length ≤ sizeLine := Nat.le_trans hz (by decide)
  refine PySem.call_list_str (I.ok.hd hc) (sOf z) t (hn := by show (sOf z).length ≤ sizeLine; rw [sOf_len]; exact hl) fun h' tk acc' c' hk hS' hacc => ?_
  have r' : Vals (z.map fun c => V.str (sOf [c])) acc'.toList := vals_signs (by have := hacc.1; simpa [sOf] using this) fun j v hj => by
    obtain ⟨c, u, e, rfl⟩ := hacc.2 j v (by simpa using hj)
    exact ⟨c, u, by simpa [sOf] using e, rfl⟩
  exact ⟨.ref s.heap.objs.size, _, I.laid (t' := tk) hk (Nat.le_refl _) (show ObjOk X.prog X.w _ h' _ (.lst _) from ⟨by rw [List.length_map]; exact hl, acc'.toList, c', r', by simpa using hS'⟩), rfl, q _ (I.hok.fresh (Nat.le_refl _))⟩
end
/-! ### heaps -/
theorem same_new {H : Hp} {p : Addr} {o : HO} (h : H p = none) : Same H (upd H p o) := fun b x e => by
  rw [upd_ne (ne_of_none e h)]
  exact e
/-- what is new may change -/
theorem Same.mut {H H' : Hp} {p : Addr} {o : HO} (e : Same H H') (h : H p = none) : Same H (upd H' p o) := fun b x hb => by
  rw [upd_ne (ne_of_none hb h)]
  exact e b x hb
/-- a bag of the laws' draws -/
def BagAt (H : Hp) (b : Addr) : Prop := ∃ g s : Int, H b = some (.lst [.int g, .int s]) ∧ 0 ≤ g ∧ 0 ≤ s ∧ s < 1000000000000
/-- the bag has turned, what else stood stands -/
def Bx (b : Addr) (H H' : Hp) : Prop := BagAt H' b ∧ ∀ a o, a ≠ b → H a = some o → H' a = some o
theorem Bx.refl {b : Addr} {H : Hp} (h : BagAt H b) : Bx b H H := ⟨h, fun _ _ _ e => e⟩
theorem Bx.trans {b : Addr} {H H1 H2 : Hp} (x : Bx b H H1) (y : Bx b H1 H2) : Bx b H H2 := ⟨y.1, fun a o n e => y.2 a o n (x.2 a o n e)⟩
theorem Bx.drawn {b : Addr} {H : Hp} {g s : Int} (g0 : 0 ≤ g) (s0 : 0 ≤ s) (s1 : s < 1000000000000) : Bx b H (upd H b (.lst [.int g, .int s])) := ⟨⟨g, s, upd_same, g0, s0, s1⟩, fun a o n e => by
  rw [upd_ne n]
  exact e⟩
theorem Bx.same {b : Addr} {H H1 H2 : Hp} (x : Bx b H H1) (y : Same H1 H2) : Bx b H H2 := by
  obtain ⟨⟨g, s, h, r⟩, k⟩ := x
  exact ⟨⟨g, s, y _ _ h, r⟩, fun a o n e => y _ _ (k a o n e)⟩
/-- from before the bag was made -/
theorem Bx.back {b : Addr} {H0 H H' : Hp} (x : Bx b H H') (y : Same H0 H) (n : H0 b = none) : Same H0 H' := fun a o e => x.2 a o (ne_of_none e n) (y a o e)
theorem Bx.mut {b p : Addr} {H H' : Hp} {o : HO} (x : Bx b H H') (hp : H p = none) (n : p ≠ b) : Bx b H (upd H' p o) := by
  obtain ⟨⟨g, s, h, r⟩, k⟩ := x
  refine ⟨⟨g, s, by rw [upd_ne n.symm]; exact h, r⟩, fun a u m e => ?_⟩
  rw [upd_ne (ne_of_none e hp)]
  exact k a u m e
theorem Bx.free {b p : Addr} {H H' : Hp} (x : Bx b H H') (h : H' p = none) : H p = none := by
  have n : p ≠ b := by
    obtain ⟨g, s, e, _⟩ := x.1
    exact (ne_of_none e h).symm
  cases q : H p with
  | none => rfl
  | some o =>
    rw [x.2 p o n q] at h
    cases h
theorem BagAt.new {H : Hp} {p : Addr} {g s : Int} (g0 : 0 ≤ g) (s0 : 0 ≤ s) (s1 : s < 1000000000000) : BagAt (upd H p (.lst [.int g, .int s])) p := ⟨g, s, upd_same, g0, s0, s1⟩
theorem BagAt.ne {H : Hp} {b p : Addr} (h : BagAt H b) (n : H p = none) : p ≠ b := by
  obtain ⟨g, s, e, _⟩ := h
  exact (ne_of_none e n).symm
/-- a list's own address is no bag's where its items are texts -/
def cells (l : List Nat) : List V := l.map fun c => V.str (sOf [c])
theorem cells_len (l : List Nat) : (cells l).length = l.length := List.length_map ..
theorem cells_set (l : List Nat) (j c : Nat) : (cells l).set j (.str (sOf [c])) = cells (l.set j c) := by
  unfold cells
  rw [List.map_set]
theorem cells_app (l : List Nat) (c : Nat) : cells l ++ [.str (sOf [c])] = cells (l ++ [c]) := by
  unfold cells
  rw [List.map_append]
  rfl
/-- the cells of rows -/
def Cell (c : Nat) : Prop := c = 46 ∨ c = 35
def Row (l : List Nat) : Prop := ∀ c ∈ l, Cell c
theorem Row.set {l : List Nat} {j c : Nat} (h : Row l) (hc : Cell c) : Row (l.set j c) := fun x hx => by
  rcases List.mem_or_eq_of_mem_set hx with e | e
  · exact h x e
  · rw [e]
    exact hc
theorem Row.app {l : List Nat} {c : Nat} (h : Row l) (hc : Cell c) : Row (l ++ [c]) := fun x hx => by
  rcases List.mem_append.mp hx with e | e
  · exact h x e
  · rw [List.mem_singleton.mp e]
    exact hc
theorem Row.rep {n c : Nat} (hc : Cell c) : Row (List.replicate n c) := fun x hx => by
  rw [(List.mem_replicate.mp hx).2]
  exact hc
theorem Row.nil : Row [] := fun _ h => nomatch h
def cellN (i : Int) : Nat := if i = 0 then 46 else 35
theorem cellN_cell (i : Int) : Cell (cellN i) := by
  unfold cellN
  split
  · exact .inl rfl
  · exact .inr rfl
theorem cell_at {i : Int} (h0 : 0 ≤ i) (h1 : i < 2) : atI (Str.ofString ".#").cps.toList i = some (cellN i) := by
  have : i = 0 ∨ i = 1 := by omega
  rcases this with rfl | rfl <;> rfl
theorem two_len : (Str.ofString ".#").length ≤ sizeLine := by decide
theorem sz {n : Nat} (h : n ≤ 100000) : n ≤ sizeLine := Nat.le_trans h (by decide)
theorem szl {n : Nat} (h : n < 100000) : n < sizeLine := Nat.lt_of_lt_of_le h (by decide)
theorem sIx_nat' (n d a : Nat) : HT.sIx n d (some (a : Int)) = min a n := HT.sIx_nat n d a
theorem cutS_nat (l : List Nat) (a b : Nat) (ha : a ≤ l.length) (hb : b ≤ l.length) : cutS (sOf l) (some (a : Int)) (some (b : Int)) = sOf ((l.drop a).take (b - a)) := by
  unfold cutS
  rw [HT.sIx_nat, HT.sIx_nat, sOf_len, sOf_list, Nat.min_eq_left ha, Nat.min_eq_left hb]
  rfl
theorem take_more {α : Type} (l : List α) (i : Nat) (x : α) (h : l[i]? = some x) : l.take (i + 1) = l.take i ++ [x] := by
  rw [List.take_add_one, h]
  rfl
theorem range_more {α : Type} (f : Nat → α) (i : Nat) : (List.range (i + 1)).map f = (List.range i).map f ++ [f i] := by
  rw [List.range_succ, List.map_append]
  rfl
theorem join_cells : ∀ l : List Nat, Txt.join (Str.ofString "") (l.map fun c => sOf [c]) = sOf l := by
  intro l
  show Builtin.Str.glued (Str.ofString "") (l.map fun c => sOf [c]) = sOf l
  rw [StrLaws.glued_eq_join]
  induction l with
  | nil => rfl
  | cons c r ih =>
    cases r with
    | nil => rfl
    | cons d r =>
      show sOf [c] ++ Str.ofString "" ++ Str.join (Str.ofString "") (List.map (fun c => sOf [c]) (d :: r)) = sOf (c :: d :: r)
      rw [ih, show (Str.ofString "") = sOf [] from rfl, sOf_app, sOf_app]
      rfl
theorem cells_strs (l : List Nat) : cells l = (l.map fun c => sOf [c]).map V.str := by
  rw [List.map_map]
  rfl
theorem ones_sum (l : List Nat) : ((l.map fun c => sOf [c]).map (·.length)).sum = l.length := by
  induction l with
  | nil => rfl
  | cons c r ih =>
    rw [List.map_cons, List.map_cons, List.sum_cons, ih, sOf_len, List.length_cons]
    show 1 + r.length = r.length + 1
    omega
theorem join_size {l : List Nat} (h : l.length ≤ 100000) : ((l.map fun c => sOf [c]).map (·.length)).sum + (l.map fun c => sOf [c]).length * (Str.ofString "").length ≤ 16777216 := by
  rw [ones_sum, show (Str.ofString "").length = 0 from rfl]
  omega
theorem rep_one (n : Nat) (c : Nat) : (List.replicate n [V.str (sOf [c])]).flatten = cells (List.replicate n c) := by
  induction n with
  | zero => rfl
  | succ k ih =>
    rw [List.replicate_succ, List.flatten_cons, ih, List.replicate_succ]
    rfl

/-! ### lists and tuples of texts -/
def sV (l : List Nat) : V := .str (sOf l)
def sD (l : List Nat) : PyData := .str (sOf l)
theorem dp_rows {K : PySem.W.Frag} {H : Hp} : ∀ rows : List (List Nat), DpAll K H (rows.map sV) (rows.map sD)
  | [] => .nil
  | r :: rs => .cons (.str _) (dp_rows rs)
def Codes (l : List Nat) : Prop := ∀ c ∈ l, c < 128
theorem strOk_of {l : List Nat} (h : Codes l) : PyData.strOk (sOf l) = true := by
  unfold PyData.strOk sOf
  rw [Array.all_eq_true']
  intro c hc
  have h2 := h c (by simpa using hc)
  exact decide_eq_true (by omega)
theorem lay_rows : ∀ {rows : List (List Nat)}, (∀ r ∈ rows, Codes r) → PyData.canLayAll0 (rows.map sD) = true
  | [], _ => by simp [PyData.canLayAll0]
  | r :: rs, h => by
    have h1 : PyData.canLay0 (sD r) = true := by
      show PyData.canLay0 (.str (sOf r)) = true
      simp only [PyData.canLay0]
      exact strOk_of (h r (List.mem_cons_self ..))
    have h2 := lay_rows (rows := rs) fun x hx => h x (List.mem_cons_of_mem _ hx)
    simp only [List.map_cons, PyData.canLayAll0, h1, h2, Bool.and_true]
theorem depth_rows : ∀ rows : List (List Nat), PyData.depthAll (rows.map sD) = 0
  | [] => by simp [PyData.depthAll]
  | r :: rs => by
    have h := depth_rows rs
    simp only [List.map_cons, PyData.depthAll, h, sD, PyData.depth]
    rfl
theorem shaped_tup {rows : List (List Nat)} (h : ∀ r ∈ rows, Codes r) : SeqAt.shaped (.tuple (rows.map sD)) = true := by
  show (PyData.canLay0 (.tuple (rows.map sD)) && decide (PyData.depth (.tuple (rows.map sD)) ≤ 64)) = true
  rw [Bool.and_eq_true]
  refine ⟨by simp only [PyData.canLay0]; exact lay_rows h, decide_eq_true ?_⟩
  simp only [PyData.depth, depth_rows]
  omega
theorem shaped_lst {rows : List (List Nat)} (h : ∀ r ∈ rows, Codes r) : SeqAt.shaped (.list (rows.map sD)) = true := by
  show (PyData.canLay0 (.list (rows.map sD)) && decide (PyData.depth (.list (rows.map sD)) ≤ 64)) = true
  rw [Bool.and_eq_true]
  refine ⟨by simp only [PyData.canLay0]; exact lay_rows h, decide_eq_true ?_⟩
  simp only [PyData.depth, depth_rows]
  omega
theorem eqv_tup {rows : List (List Nat)} (h : ∀ r ∈ rows, Codes r) : PyData.eqv (.tuple (rows.map sD)) (.tuple (rows.map sD)) = true := SeqAt.eqv_refl _ (by simp only [PyData.canLay0]; exact lay_rows h)
theorem eqv_lst {rows : List (List Nat)} (h : ∀ r ∈ rows, Codes r) : PyData.eqv (.list (rows.map sD)) (.list (rows.map sD)) = true := SeqAt.eqv_refl _ (by simp only [PyData.canLay0]; exact lay_rows h)
theorem Row.codes {l : List Nat} (h : Row l) : Codes l := fun c hc => by
  rcases h c hc with e | e <;> rw [e] <;> decide
theorem same_t {K : PySem.W.Frag} {H H' : Hp} {a : Addr} {xs : List V} (e : Same H H') (h : SqT K H a xs) : SqT K H' a xs := Evl.ex_t e h
theorem cut1 (xs : List V) : cutV xs (some 1) none = xs.drop 1 := by
  unfold cutV
  rw [show HT.sIx xs.length 0 (some 1) = min 1 xs.length from HT.sIx_nat xs.length 0 1, HT.sIx_none]
  cases xs with
  | nil => rfl
  | cons x r =>
    rw [show min 1 (x :: r).length = 1 by
      rw [List.length_cons]
      omega]
    show (List.take ((x :: r).length - 1) r) = r
    rw [List.length_cons, Nat.add_sub_cancel]
    exact List.take_length

/-! ### tuples of any kind, texts times an int -/
section
variable {X : Cx}
theorem cutV_whole {xs : List V} {lo hi : Option Int} (h : HT.sIx xs.length 0 lo = 0 ∧ HT.sIx xs.length xs.length hi = xs.length) : cutV xs lo hi = xs := by
  unfold cutV
  rw [h.1, h.2]
  show (xs.drop 0).take (xs.length - 0) = xs
  rw [List.drop_zero, Nat.sub_zero, List.take_length]
theorem sl_tupW : SlR X (fun x lo hi H Q => ∃ a xs, x = .ref a ∧ H a = some (.tup xs) ∧ ∀ q H', Same H H' → H' q = some (.tup (cutV xs lo hi)) → Q (.ref q) H') := by
  intro pins s σ H x v vl vu lo hi sl Q I rx hs pl pu h
  obtain ⟨a, xs, rfl, hx, q⟩ := h
  refine sl_tupA pins s σ H _ v vl vu lo hi sl Q I rx hs pl pu ⟨a, xs, rfl, .inl (.inl hx), fun e => ?_, fun e p hp => ?_⟩
  · exact q a H (Same.refl H) (by rw [cutV_whole e]; exact hx)
  · exact q p _ (same_new hp) upd_same
theorem op_catW : OpR X (binaryOp .Add) (fun x y H Q => ∃ a b xs ys, x = .ref a ∧ y = .ref b ∧ H a = some (.tup xs) ∧ H b = some (.tup ys) ∧ xs.length + ys.length ≤ 100000 ∧ ∀ q H', Same H H' → H' q = some (.tup (xs ++ ys)) → Q (.ref q) H') := by
  intro pins s σ H x y v u Q I rx ry h
  obtain ⟨a, b, xs, ys, rfl, rfl, ha, hb, hz, q⟩ := h
  refine op_catA pins s σ H _ _ v u Q I rx ry ⟨a, b, xs, ys, rfl, rfl, .inl (.inl ha), .inl (.inl hb), sz hz, fun e => ?_, fun _ e => ?_, fun _ _ p hp => ?_⟩
  · subst e
    exact q b H (Same.refl H) hb
  · subst e
    exact q a H (Same.refl H) (by rw [List.append_nil]; exact ha)
  · exact q p _ (same_new hp) upd_same
theorem op_mul_txt : OpR X (binaryOp .Mult) (fun x y H Q => ∃ (z : Str) (n : Int), x = .str z ∧ y = .int n ∧ (0 ≤ n ∧ n ≤ 1000 ∧ z.length ≤ 1000) ∧ ∀ m : Str, (m.length : Int) = (z.length : Int) * n → Q (.str m) H) := by
  intro pins s σ H x y v u Q I rx ry h
  obtain ⟨z, n, rfl, rfl, hz, q⟩ := h
  obtain ⟨t, rfl⟩ := rx
  obtain ⟨t', rfl⟩ := ry
  refine SB.mul (mulOk_of 1000 1000 hz.2.2 (by omega) (by omega) (by decide) (by decide)) fun t' k => ?_
  have e := len_mul z n
  rw [if_neg (by simp; omega)] at e
  exact ⟨.str (Txt.mul z n), H, I.tok _, ⟨_, rfl⟩, q _ e⟩
end
theorem cutV_mem {xs : List V} {lo hi : Option Int} {v : V} (h : v ∈ cutV xs lo hi) : v ∈ xs := by
  unfold cutV at h
  exact List.mem_of_mem_drop (List.mem_of_mem_take h)
theorem cutV_len (xs : List V) (lo hi : Option Int) : (cutV xs lo hi).length ≤ xs.length := by
  unfold cutV
  rw [List.length_take, List.length_drop]
  omega
/-! ### things of the laws -/
def Flat (v : V) : Prop := v = .non ∨ (∃ x, v = .bl x) ∨ (∃ i, v = .int i) ∨ ∃ z : Str, v = .str z ∧ z.length ≤ 100000
def It (b : Addr) (H : Hp) (v : V) : Prop := Flat v ∨ (∃ a xs, v = .ref a ∧ a ≠ b ∧ H a = some (.lst xs)) ∨ ∃ a xs, v = .ref a ∧ H a = some (.tup xs)
def Tg (b : Addr) (H : Hp) (v : V) : Prop := Flat v ∨ (∃ a xs, v = .ref a ∧ a ≠ b ∧ H a = some (.lst xs)) ∨ ∃ a xs, v = .ref a ∧ H a = some (.tup xs) ∧ xs.length ≤ 1000 ∧ ∀ u ∈ xs, It b H u
theorem BagAt.tup {H : Hp} {b a : Addr} {xs : List V} (h : BagAt H b) (e : H a = some (.tup xs)) : a ≠ b := fun z => by
  obtain ⟨g, s, e2, _⟩ := h
  rw [z, e2] at e
  cases e
theorem It.bx {b : Addr} {H H' : Hp} {v : V} (h : It b H v) (hb : BagAt H b) (x : Bx b H H') : It b H' v := by
  rcases h with h | ⟨a, xs, rfl, n, e⟩ | ⟨a, xs, rfl, e⟩
  · exact .inl h
  · exact .inr (.inl ⟨a, xs, rfl, n, x.2 _ _ n e⟩)
  · exact .inr (.inr ⟨a, xs, rfl, x.2 _ _ (hb.tup e) e⟩)
theorem Tg.bx {b : Addr} {H H' : Hp} {v : V} (h : Tg b H v) (hb : BagAt H b) (x : Bx b H H') : Tg b H' v := by
  rcases h with h | ⟨a, xs, rfl, n, e⟩ | ⟨a, xs, rfl, e, l, k⟩
  · exact .inl h
  · exact .inr (.inl ⟨a, xs, rfl, n, x.2 _ _ n e⟩)
  · exact .inr (.inr ⟨a, xs, rfl, x.2 _ _ (hb.tup e) e, l, fun u hu => (k u hu).bx hb x⟩)
theorem Tg.it {b : Addr} {H : Hp} {v : V} (h : Tg b H v) : It b H v := by
  rcases h with h | h | ⟨a, xs, rfl, e, l, k⟩
  · exact .inl h
  · exact .inr (.inl h)
  · exact .inr (.inr ⟨a, xs, rfl, e⟩)
theorem Tg.str {b : Addr} {H : Hp} {z : Str} (h : z.length ≤ 100000) : Tg b H (.str z) := .inl (.inr (.inr (.inr ⟨z, rfl, h⟩)))
theorem It.str {b : Addr} {H : Hp} {z : Str} (h : z.length ≤ 100000) : It b H (.str z) := .inl (.inr (.inr (.inr ⟨z, rfl, h⟩)))
theorem str_sOf (z : Str) : z = sOf z.cps.toList := of_list rfl

/-! ### rules whose new objects stand in an opaque heap -/
section
variable {X : Cx} {es : List Expr} {t : TA} {pos : Pos}
theorem pe_weaken {e : Expr} {te tf : TE} (h : PE X e te) (k : ∀ σ H Q, tf σ H Q → te σ H Q) : PE X e tf := ⟨fun pins s σ H Q I q => h.run pins s σ H Q I (k σ H Q q)⟩
def tLstW (t : TA) : TE := fun σ H Q => t σ H fun xs H1 => xs.length ≤ 100000 ∧ ∀ p H2, H1 p = none → Same H1 H2 → H2 p = some (.lst xs) → Q (.ref p) H2
def tTupW (t : TA) : TE := fun σ H Q => t σ H fun xs H1 => xs.length ≤ 100000 ∧ ∀ p H2, H1 p = none → Same H1 H2 → H2 p = some (.tup xs) → Q (.ref p) H2
end
def rNewW (H : Hp) (o : HO) (Q : VK) : Prop := ∀ p H2, H p = none → Same H H2 → H2 p = some o → Q (.ref p) H2
theorem rNewW.go {H : Hp} {o : HO} {Q : VK} (q : rNewW H o Q) : ∀ p, H p = none → Q (.ref p) (upd H p o) := fun p hp => q p _ hp (same_new hp) upd_same
section
variable {X : Cx}
theorem op_catLW : OpR X (binaryOp .Add) (fun x y H Q => ∃ a b xs ys, x = .ref a ∧ y = .ref b ∧ H a = some (.lst xs) ∧ H b = some (.lst ys) ∧ xs.length + ys.length ≤ 100000 ∧ rNewW H (.lst (xs ++ ys)) Q) := by
  intro pins s σ H x y v u Q I rx ry h
  obtain ⟨a, b, xs, ys, rfl, rfl, ha, hb, hz, q⟩ := h
  exact op_cat pins s σ H _ _ v u Q I rx ry ⟨a, b, xs, ys, rfl, rfl, ha, hb, sz hz, q.go⟩
theorem op_repTW : OpR X (binaryOp .Mult) (fun x y H Q => ∃ l k xs, x = .ref l ∧ y = .int k ∧ H l = some (.tup xs) ∧ xs ≠ [] ∧ 2 ≤ k ∧ k ≤ 1000 ∧ xs.length ≤ 1000 ∧ rNewW H (.tup (List.replicate k.toNat xs).flatten) Q) := by
  intro pins s σ H x y v u Q I rx ry h
  obtain ⟨l, k, xs, rfl, rfl, hl, h1, h2, h3, h4, q⟩ := h
  exact op_repT pins s σ H _ _ v u Q I rx ry ⟨l, k, xs, rfl, rfl, .inl (.inl hl), h1, h2, h3, h4, q.go⟩
theorem call_list_ofW : CallR X (.type "list") (fun xs H Q => ∃ p ys, xs = [.ref p] ∧ (H p = some (.lst ys) ∨ H p = some (.tup ys)) ∧ rNewW H (.lst ys) Q) := by
  intro pins s σ H xs us Q I r h
  obtain ⟨p, ys, rfl, hp, q⟩ := h
  exact call_list_of pins s σ H _ us Q I r ⟨p, ys, rfl, hp.elim (fun h => .inl (SqL.of h)) (fun h => .inr (.inl (.inl h))), q.go⟩
theorem call_list_strW (hc : X.calm = true) : CallR X (.type "list") (fun xs H Q => ∃ z : Str, xs = [.str z] ∧ z.length ≤ 100000 ∧ rNewW H (.lst (cells z.cps.toList)) Q) := by
  intro pins s σ H xs us Q I r h
  obtain ⟨z, rfl, hz, q⟩ := h
  refine call_list_str hc pins s σ H _ us Q I r ⟨z.cps.toList, by rw [← str_sOf], ?_, q.go⟩
  rw [Array.length_toList]
  exact hz
end
section
variable {X : Cx} {es : List Expr} {t : TA} {pos : Pos}
theorem pe_tupW {x1} (h : PA X es t) : PE X (.Tuple es x1 pos) (tTupW t) := by
  refine ⟨fun pins s σ H Q I hq => ?_⟩
  refine wpAny_Tuple_spliced (thn (h.run pos pins s σ H _ I hq) fun us s1 ⟨xs, H1, I1, r, z, q⟩ => ⟨by rw [← r.length]; exact sz z, ?_⟩)
  have hf : H1 s1.heap.objs.size = none := I1.hok.fresh (Nat.le_refl _)
  refine ⟨.ref s1.heap.objs.size, upd H1 s1.heap.objs.size (.tup xs), I1.laid (t' := s1.toks) (fun b u e => Heap.get?_push_of_some _ e) (Nat.le_refl _) ?_, rfl, q _ _ hf (same_new hf) upd_same⟩
  exact ⟨sz z, us, r, ⟨_, Heap.get?_push_size _ rfl, rfl, _, rfl⟩⟩
theorem pe_lstW (h : PA X es t) : PE X (.List es pos) (tLstW t) := by
  refine ⟨fun pins s σ H Q I hq => ?_⟩
  refine wpAny_List_spliced (thn (h.run pos pins s σ H _ I hq) fun us s1 ⟨xs, H1, I1, r, z, q⟩ => ⟨by rw [← r.length]; exact sz z, ?_⟩)
  have hf : H1 s1.heap.objs.size = none := I1.hok.fresh (Nat.le_refl _)
  refine ⟨.ref s1.heap.objs.size, upd H1 s1.heap.objs.size (.lst xs), I1.laid (t' := s1.toks) (fun b u e => Heap.get?_push_of_some _ e) (Nat.le_refl _) ?_, rfl, q _ _ hf (same_new hf) upd_same⟩
  exact ⟨sz z, us, 0, r, Heap.get?_push_size _ rfl⟩
end
end Fp

set_option Elab.async false
set_option linter.all false
set_option maxRecDepth 100000
set_option maxHeartbeats 4000000
/-! sorted(range(n), key=lambda i: xs[i]) over the hand layer. -/
namespace Fp
open PySem PySem.W PySem.Spec PyProof.Rows
section
variable {prog : Program} {w : World} {A : Around} {E : Value → Shared → Prop} {s : Shared}
/-- the key's call: (lambda i: xs[i])(i) -/
theorem key_turn {f c' a cL : Addr} {qual : Str} {params : Arguments} {scope : Scope} {clos : List (Str × Addr)} {pm ctv : Value} {xL xP : Str} {p1 p2 p3 : Pos} {h : Heap} {tk : Nat} {its : Array Value} {i : Int} {t : Tok} {x : Int} {tx : Tok}
    (hroom : A.depth < recursionLimit) (hf : h.get? f = some (kla_obj "<lambda>" qual params (.Subscript (.Name xL p1) (.Name xP p2) p3) scope clos pm c' ctv))
    (hkind : scope.kind = .function) (hco : scope.isCoroutine = false) (hgen : scope.isGenerator = false) (hcell : ∀ y ∈ scope.names, y.2 ≠ .cell) (hP : scope.names.lookup xP = some .local) (hL : scope.names.lookup xL = some .free)
    (hcl : clos.lookup xL = some cL) (hic : h.IsCell cL (some (.ref a))) (hcr : ∃ (oc : Obj) (vs : Array Value) (t : Tok), h.get? c' = some oc ∧ oc.data = .fields vs ∧ vs[1]? = some (.str qual t))
    (hbind : ∀ v, bindArgs (kla_fn "<lambda>" qual params (.Subscript (.Name xL p1) (.Name xP p2) p3) scope clos pm (.ref c') ctv) ⟨[v], []⟩ = pure [(xP, v)])
    (hlim : h.NoLimit) (hl : h.IsList a its) (h0 : 0 ≤ i) (hi : i < 2 ^ 63) (hx : its[i.toNat]? = some (.int x tx))
    (hd1 : (xL == ("__debug__" : Str)) = false) (hd2 : (xP == ("__debug__" : Str)) = false) (hd3 : (xL == ("__classdict__" : Str)) = false) :
    wpAny (model prog w) A (call (.ref f) [.int i t]) (KeyPure (.int x) { s with heap := h, toks := tk }) E { s with heap := h, toks := tk } := by
  obtain ⟨oc, vs, tq, hoc, hdc, hvc⟩ := hcr
  refine wpAny_call (kla_callFunE hroom hf rfl hco hgen rfl ⟨c', oc, vs, tq, rfl, hoc, hdc, hvc⟩ ?_)
  rw [hbind]
  refine wpAny_pure (wpAny_newFunctionEnv hcell (fun y hy => ?_) (fun h₁ hns hsb => ⟨hlim.fresh _ hsb, ?_⟩) hkind)
  · rw [List.mem_singleton.mp hy]
    exact hP
  have kp : ∀ b o, h.get? b = some o → h₁.get? b = some o := fun b o e => hsb.extBut b o (Nat.ne_of_lt (Heap.lt_size e)) (Heap.get?_push_of_some _ e)
  show codeAny _ _ (.expr (.Subscript (.Name xL p1) (.Name xP p2) p3) (envX qual scope h.objs.size f (.ref c') clos)) _ _
  refine kla_codeExpr ?_
  have hic1 : h₁.IsCell cL (some (.ref a)) := by
    obtain ⟨o, ho, hd⟩ := hic
    exact ⟨o, kp _ _ ho, hd⟩
  have hl1 : h₁.IsList a its := by
    obtain ⟨o, ho, r⟩ := hl
    exact ⟨o, kp _ _ ho, r⟩
  refine Subscript_ (wpAny_Name (wpAny_loadName_free hkind hL hcl hic1 (wpAny_Name (wpAny_loadName_local hkind hP hns (show ([(xP, Value.int i t)] : List (Str × Value)).reverse.lookup xP = some (Value.int i t) by simp [List.lookup]) ?_) hd2) hd3) hd1)
  refine item_listR hl1 h0 hi hx ?_ rfl
  exact ⟨h₁, _, rfl, kp, .int _ _⟩
theorem each_range {acc : List Value} {n : Nat} (h1 : acc.length = n) (h2 : ∀ (j : Nat) v, acc[j]? = some v → ∃ t, v = .int (0 + (j : Int) * 1) t) : EachIs (fun v (i : Nat) => ∃ t, v = .int (i : Int) t) acc (List.range n) := by
  refine EachIs.of_zip (by rw [h1, List.length_range]) fun p hp => ?_
  obtain ⟨j, hj⟩ := List.mem_iff_getElem?.mp hp
  rw [List.getElem?_zip_eq_some] at hj
  obtain ⟨t, e⟩ := h2 j p.1 hj.1
  have e2 : p.2 = j := by
    have hj2 := hj.2
    have hl : j < n := by
      have := (List.getElem?_eq_some_iff.mp hj2).1
      rw [List.length_range] at this
      exact this
    rw [List.getElem?_range hl] at hj2
    exact (Option.some.inj hj2).symm
  refine ⟨t, ?_⟩
  rw [e, e2]
  congr 1
  omega
theorem sorted_range_key {r : Addr} {b : Int} {t u v : Tok} {f : Addr} {n : Nat} {Q : Value → Shared → Prop} (k : Nat → Int) (hh : A.handled = none) (hr : IsRange s.heap r 0 b 1 t u v) (hn : b = n) (hlen : n ≤ 100000) (hu : A.units + 2 < cLine)
    (turn : ∀ (i : Nat) (tt : Tok), i < n → ∀ (h : Heap) (tk : Nat), (∀ b o, s.heap.get? b = some o → h.get? b = some o) →
      wpAny (model prog w) A.in1.in1 (call (.ref f) [.int (i : Int) tt]) (KeyPure (.int (k i)) { s with heap := h, toks := tk }) (fun _ _ => False) { s with heap := h, toks := tk })
    (fin : ∀ (out : List Value) (c : Nat) (g h' : Heap) (tk : Nat) (p : Addr), (∀ b o, s.heap.get? b = some o → g.get? b = some o) → (∀ b o, g.get? b = some o → h'.get? b = some o) → g.objs.size ≤ p → h'.get? p = some (seqObj "list" out.toArray c) → out.length = n →
      EachIs (fun v (i : Nat) => ∃ t, v = .int (i : Int) t) out ((List.range n).mergeSort (dataLe false fun i => .int (k i))) → Q (.ref p) { s with heap := h', toks := tk }) :
    wpAny (model prog w) A (call (.builtin "sorted") [.ref r] [(Str.ofString "key", .ref f)]) Q E s := by
  refine call_function_entry_kw kind_sorted plain_sorted entry_sorted (ksk_s1 _ _) ?_
  unfold Builtin.«sorted»
  refine wpAny_bind (m := checkCount "sorted" 1 1 _) (wpAny_pure ?_)
  refine wpAny_bind (L2.collect_range (n := n) (A := A.in1) hh hr (small_one (by omega) (by omega) (by omega) (by omega)) (by rw [rangeSize_one]; split <;> omega) (by omega) fun h1 tk1 acc hk hacc => ?_)
  have hal : acc.toList.length = n := by rw [Array.length_toList]; exact hacc.1
  have eR := each_range hal fun j v hj => hacc.2 j v (by simpa using hj)
  have hz : acc.toList.length ≤ sizeLine := by rw [hal]; exact Nat.le_trans hlen (by decide)
  refine wpAny_bind (wpAny_newList ?_ hz)
  have hL : (h1.push (seqObj "list" acc.toList.toArray 0)).get? h1.objs.size = some (seqObj "list" acc.toList.toArray 0) := Heap.get?_push_size _ rfl
  refine wpAny_bind (wpAny_holding (wpAny_call_entry_kw slot_list_sort ⟨_, hL, rfl⟩ entry_list_sort ?body (ksk_l1 _ _)))
  rw [ksk_t1]
  have up : ∀ {g : Heap}, KeepsBut h1.objs.size (h1.push (seqObj "list" acc.toList.toArray 0)) g → ∀ b o, s.heap.get? b = some o → g.get? b = some o := fun {g} kp b o q =>
    kp b o (Nat.ne_of_lt (Heap.lt_size (hk b o q))) (Heap.get?_push_of_some _ (hk b o q))
  refine keyH_tree (kz := (List.range n).map fun i => PyData.int (k i)) (s := { s with heap := h1.push (seqObj "list" acc.toList.toArray 0), toks := tk1 }) hL (by rw [List.length_map, List.length_range]; exact hal.symm) hz ?al ?so ?un
    (keyH_turns (s := { s with heap := h1.push (seqObj "list" acc.toList.toArray 0), toks := tk1 }) eR fun v x hR hx h tk kp => ?_) fun h' tk out c kp hD ko => ⟨_, rfl, ?_⟩
  case al =>
    intro d hd d' hd'
    obtain ⟨i, _, rfl⟩ := List.mem_map.mp hd
    obtain ⟨j, _, rfl⟩ := List.mem_map.mp hd'
    rfl
  case so =>
    refine .inr fun d hd => ?_
    obtain ⟨i, _, rfl⟩ := List.mem_map.mp hd
    exact ⟨(fun e => nomatch e), (fun xs e => nomatch e)⟩
  case un =>
    intro d hd
    obtain ⟨i, _, rfl⟩ := List.mem_map.mp hd
    show A.units + 1 + 1 + 0 < cLine
    omega
  · obtain ⟨tt, rfl⟩ := hR
    exact turn x tt (List.mem_range.mp hx) h tk (up kp)
  · refine wpAny_pure ⟨_, rfl, ?_⟩
    refine fin out c h1 h' tk h1.objs.size hk (fun b o q => kp b o (Nat.ne_of_lt (Heap.lt_size q)) (Heap.get?_push_of_some _ q)) (Nat.le_refl _) hD ?_ (keyedOut_each (fun i => PyData.int (k i)) ko eR)
    · exact (ko.length (by rw [List.length_map, List.length_range]; exact hal.symm)).trans hal
end
/-! ### the order -/
def leK (k : Nat → Int) (i j : Nat) : Bool := decide (k i ≤ k j)
def orderOf (ns : List Int) : List Nat := (List.range ns.length).mergeSort (leK fun i => ns.getD i 0)
theorem dataLe_int (k : Nat → Int) (i j : Nat) : dataLe false (fun i => PyData.int (k i)) i j = leK k i j := by
  show (!(decide (k j < k i) || (!decide (k i < k j) && false))) = decide (k i ≤ k j)
  rw [Bool.and_false, Bool.or_false]
  by_cases h : k j < k i
  · rw [decide_eq_true h, decide_eq_false (by omega)]
    rfl
  · rw [decide_eq_false h, decide_eq_true (by omega)]
    rfl
theorem vals_each {out : List Value} {is : List Nat} (h : EachIs (fun v (i : Nat) => ∃ t, v = .int (i : Int) t) out is) : L2.Vals (is.map fun (i : Nat) => L2.V.int (i : Int)) out := by
  induction h with
  | nil => exact .nil
  | cons h _ ih => exact .cons h ih
end Fp
namespace Fp
open PySem PySem.Spec PyProof.Rows L2 LamX
section
variable {X : Cx}
theorem cr_range1 : CallR X (.type "range") (fun vs H Q => ∃ j, vs = [V.int j] ∧ ∀ p, H p = none → Q (.ref p) (upd H p (.rng 0 j))) := by
  intro pins s σ H vs us Q I r h
  obtain ⟨j, rfl, q⟩ := h
  obtain ⟨u, rfl, t, rfl⟩ := vals1 r
  refine call_range_1 ⟨.ref s.heap.objs.size, upd H s.heap.objs.size (.rng 0 j), I.laid (t' := s.toks + 1 + 1) (fun b o e => Heap.get?_push_of_some _ e) (Nat.le_refl _) ?_, rfl, q _ (I.hok.fresh (Nat.le_refl _))⟩
  exact ⟨_, _, _, Heap.get?_push_size _ rfl⟩
/-- sorted(range(len(xs)), key=lambda i: xs[i]): l in slot iL holds xs -/
def tSortLam (T : List (Addr × Str)) (iL : Nat) (ta : TA) : TE := fun σ H Q => ta σ H fun vs H1 => ∃ (r l : Addr) (ns : List Int), vs = [.ref r] ∧ H1 r = some (.rng 0 (ns.length : Int)) ∧ Tabs T H1 ∧ σ[iL]? = some (some (.ref l)) ∧ H1 l = some (.lst (ns.map V.int)) ∧ ns.length ≤ 1000 ∧
  ∀ p H2, ExtN H1 H2 → Tabs T H2 → H2 p = none → Q (.ref p) (upd H2 p (.lst ((orderOf ns).map fun (i : Nat) => V.int (i : Int))))
theorem pe_sortLam {T : List (Addr × Str)} {c P : Addr} {iL k : Nat} {e : Expr} {ta : TA} {params : Arguments} {scope : Scope} {xL xP : Str} {p p1 p2 p3 lpos kpos pos : Pos} (hg : Gl X "sorted") (hm : X.mg "sorted" = none) (ha : PA X [e] ta)
    (TB : TabB X.base X.mg c P) (hcode : X.env.code = .ref c) (hmT : (P, X.env.qual ++ "<lambda>") ∈ T) (hu : ∀ p ∈ T, p.1 = P → p.2 = X.env.qual ++ "<lambda>") (hr : Room k X.A) (hN : X.N[iL]? = some xL)
    (hcalm : X.calm = true)
    (hcL : X.env.scope.names.lookup xL = some .cell) (hkind : scope.kind = .function) (hco : scope.isCoroutine = false) (hgen : scope.isGenerator = false) (hnm : scope.names = [(xP, .local), (xL, .free)]) (hne : (xP == xL) = false)
    (hdef : defaultsOf params X.env = ([], []))
    (hbind : ∀ (q : Str) (cl : List (Str × Addr)) (pm cv ctv v : Value), bindArgs (PySem.W.kla_fn "<lambda>" q params (.Subscript (.Name xL p1) (.Name xP p2) p3) scope cl pm cv ctv) ⟨[v], []⟩ = pure [(xP, v)])
    (hd1 : (xL == ("__debug__" : Str)) = false := by decide) (hd2 : (xP == ("__debug__" : Str)) = false := by decide) (hd3 : (xL == ("__classdict__" : Str)) = false := by decide)
    (he : backTo pos (starEach [e] X.env) = (false, eval e X.env) :: backTo pos (starEach [] X.env) := by rfl) (hpl : (backTo pos (starEach [e] X.env)).any (·.1) = false := by rfl) :
    PE X (.Call (.Name "sorted" p) [e] [⟨some "key", .Lambda params (.Subscript (.Name xL p1) (.Name xP p2) p3) scope lpos, kpos⟩] pos) (tSortLam T iL ta) := by
  refine ⟨fun pins s σ H Q I h => ?_⟩
  refine wpAny_Call_Name_kw (ld_blt I hg hm (show bootBuiltins "sorted" = some (.builtin "sorted") by decide +kernel) ?_)
  refine PyProof.Rows.callWith_kw (thn (ha.run pos pins s σ H _ I h) fun us s1 ⟨vs, H1, I1, r1, q1⟩ => ?_) he hpl rfl rfl
  obtain ⟨r, l, ns, rfl, hrng, hT, hσ, hl, hlen, q⟩ := q1
  obtain ⟨u1, rfl, e1⟩ := vals1 r1
  obtain rfl : u1 = Value.ref r := e1
  show wpAny _ _ (evalAll ((do let v ← eval (.Lambda params (.Subscript (.Name xL p1) (.Name xP p2) p3) scope lpos) X.env; standAt pos; pure v) :: [])) _ _ s1
  refine wpAny_evalAll_cons (wpAny_bind (lam_make2 I1 TB hcode hmT hu hT hdef (fun y hy ey => ?_) fun f c' pm ctv H2 s2 I2 eN T2 hf hfn hfr hco2 => wpAny_bind (wpAny_standAt (wpAny_pure (wpAny_evalAll_nil ?_)))))
  · rw [hnm] at hy
    rcases List.mem_cons.mp hy with z | z
    · rw [z] at ey
      cases ey
    · rw [List.mem_singleton.mp z]
      exact I1.ok.has _ (.inl hcL)
  show wpAny _ _ (call (.builtin "sorted") [.ref r] [(Str.ofString "key", .ref f)]) _ _ _
  have hr2 : H2 r = some (.rng 0 (ns.length : Int)) := eN r _ hrng (fun ps z => by cases z)
  have hl2 : H2 l = some (.lst (ns.map V.int)) := eN l _ hl (fun ps z => by cases z)
  obtain ⟨t, u, v, hrr⟩ := I2.hok r _ hr2
  obtain ⟨hz, its, cn, hv, hget⟩ := I2.hok l _ hl2
  obtain ⟨m, hn, hloc⟩ := I2.loc
  obtain ⟨ul, rul, look⟩ := hloc iL xL (.ref l) hN hσ (.inr (.inl hcL))
  obtain rfl : ul = Value.ref l := rul
  obtain ⟨cL, hcl, hcell⟩ : ∃ cL, X.env.cells.lookup xL = some cL ∧ s2.heap.IsCell cL (some (.ref l)) := by
    rcases look with ⟨hk, _⟩ | ⟨_, c3, h1, h2⟩
    · have hk : X.env.scope.names.lookup xL = some .local := hk
      rw [hcL] at hk
      cases hk
    · exact ⟨c3, h1, h2⟩
  have hclo : (cloFrom X.env.cells scope.names []).lookup xL = some cL := by
    rw [hnm]
    show (cloFrom X.env.cells [(xL, .free)] []).lookup xL = some cL
    show ([(xL, (X.env.cells.lookup xL).getD 0)] : List (Str × Addr)).lookup xL = some cL
    rw [hcl]
    simp [List.lookup]
  obtain ⟨⟨oc, cvs, ct, hoc, hdc, hvc⟩, _, _⟩ := I2.hok c' _ hco2
  refine sorted_range_key (n := ns.length) (fun i => ns.getD i 0) (I2.ok.hd hcalm) hrr rfl (by omega) (by have := hr.un; omega) (fun i tt hi h tk kp => ?_) fun out c g h' tk p kg gh hgp hp lo each => ?_
  · have hx : (ns.map V.int)[i]? = some (.int (ns.getD i 0)) := by
      rw [List.getElem?_map, List.getElem?_eq_getElem hi, List.getD_eq_getElem?_getD, List.getElem?_eq_getElem hi]
      rfl
    obtain ⟨w', ew, tx, rfl⟩ := hv.get hx
    obtain ⟨oC, hoC, hdC⟩ := hcell
    refine key_turn (A := X.A.in1.in1) (cL := cL) (a := l) (its := its.toArray) (by show X.A.depth < recursionLimit; have := hr.dp; omega) (kp _ _ hf) hkind hco hgen ?_ ?_ ?_ hclo ⟨oC, kp _ _ hoC, hdC⟩ ⟨oc, cvs, ct, kp _ _ hoc, hdc, hvc⟩ (fun v => hbind _ _ _ _ _ v) (I2.nolimit.keeps kp) ⟨_, kp _ _ hget, rfl, cn, rfl⟩ (by omega) (by omega) (by simpa using ew) hd1 hd2 hd3
    · intro y hy
      rw [hnm] at hy
      rcases List.mem_cons.mp hy with z | z
      · rw [z]
        exact (fun e => nomatch e)
      · rw [List.mem_singleton.mp z]
        exact (fun e => nomatch e)
    · rw [hnm]
      simp [List.lookup]
    · rw [hnm]
      have : (xL == xP) = false := by
        rw [← Bool.not_eq_true] at hne ⊢
        intro z
        exact hne (by rw [beq_iff_eq] at z ⊢; exact z.symm)
      simp [List.lookup, this]
  · have I3 : Inv X pins σ H2 { s2 with heap := g, toks := tk } := I2.kept kg
    have fr : H2 p = none := I3.hok.fresh hgp
    have each2 : PySem.W.EachIs (fun v (i : Nat) => ∃ t, v = .int (i : Int) t) out (orderOf ns) := by
      have es : (List.range ns.length).mergeSort (PySem.W.dataLe false fun i => PyData.int (ns.getD i 0)) = orderOf ns := PySem.W.sort_congr fun a _ b _ => dataLe_int _ a b
      rw [← es]
      exact each
    have ol : (orderOf ns).length = ns.length := by
      unfold orderOf
      rw [List.length_mergeSort, List.length_range]
    have I4 : Inv X pins σ (upd H2 p (.lst ((orderOf ns).map fun (i : Nat) => V.int (i : Int)))) { s2 with heap := h', toks := tk } := I3.laid (t' := tk) gh hgp ⟨by rw [List.length_map, ol]; exact sz (by omega), out, c, vals_each each2, hp⟩
    exact ⟨.ref p, _, I4, rfl, q p H2 eN T2 fr⟩
end
end Fp

set_option Elab.async false
set_option linter.all false
set_option maxRecDepth 100000
set_option maxHeartbeats 4000000
/-! words by lengths: the mathematics. -/
namespace Fp
open PySem PyProof.Rows
/-! ### the order by buckets -/
theorem leK_total (k : Nat → Int) : PySem.W.TotalLe (leK k) where
  trans := fun a b c h1 h2 => by
    unfold leK at *
    have := of_decide_eq_true h1
    have := of_decide_eq_true h2
    exact decide_eq_true (by omega)
  total := fun a b => by
    unfold leK
    by_cases h : k a ≤ k b
    · exact .inl (decide_eq_true h)
    · exact .inr (decide_eq_true (by omega))
def buckets (k : Nat → Int) (n : Nat) : List Nat := (List.range 13).flatMap fun (v : Nat) => (List.range n).filter fun (i : Nat) => decide (k i = (v : Int))
theorem flat_one {α : Type} (X : List α) (c : Nat) : ∀ l : List Nat, l.Nodup → (l.flatMap fun v => if v = c then X else []) = if c ∈ l then X else []
  | [], _ => rfl
  | v :: r, h => by
    have h1 := List.nodup_cons.mp h
    have ih := flat_one X c r h1.2
    rw [List.flatMap_cons, ih]
    by_cases e : v = c
    · subst e
      rw [if_pos rfl, if_neg h1.1, if_pos (List.mem_cons_self ..), List.append_nil]
    · rw [if_neg e, List.nil_append]
      by_cases m : c ∈ r
      · rw [if_pos m, if_pos (List.mem_cons_of_mem _ m)]
      · rw [if_neg m, if_neg (fun z => by
          rcases List.mem_cons.mp z with z | z
          · exact e z.symm
          · exact m z)]
theorem rank_eq (k : Nat → Int) (c a : Nat) : PySem.W.sameRank (leK k) c a = decide (k a = k c) := by
  unfold PySem.W.sameRank leK
  by_cases h : k a = k c
  · rw [decide_eq_true h, decide_eq_true (by omega), decide_eq_true (by omega)]
    rfl
  · rw [decide_eq_false h]
    by_cases h2 : k c ≤ k a
    · rw [decide_eq_true h2, decide_eq_false (by omega)]
      rfl
    · rw [decide_eq_false h2]
      rfl
theorem order_buckets (k : Nat → Int) (n : Nat) (h : ∀ i, i < n → 0 ≤ k i ∧ k i ≤ 12) : (List.range n).mergeSort (leK k) = buckets k n := by
  symm
  refine PySem.W.sort_unique (leK_total k) ?_ fun c => ?_
  · unfold buckets
    rw [List.pairwise_flatMap]
    refine ⟨fun v _ => ?_, ?_⟩
    · refine List.Pairwise.imp_of_mem (fun {a b} ha hb _ => ?_) (List.Pairwise.filter _ List.pairwise_lt_range)
      have e1 := of_decide_eq_true (List.mem_filter.mp ha).2
      have e2 := of_decide_eq_true (List.mem_filter.mp hb).2
      exact decide_eq_true (by omega)
    · refine List.Pairwise.imp (fun {v v'} hv x hx y hy => ?_) List.pairwise_lt_range
      have e1 := of_decide_eq_true (List.mem_filter.mp hx).2
      have e2 := of_decide_eq_true (List.mem_filter.mp hy).2
      exact decide_eq_true (by omega)
  · have eq : PySem.W.sameRank (leK k) c = fun a => decide (k a = k c) := funext fun a => rank_eq k c a
    rw [eq]
    unfold buckets
    rw [List.filter_flatMap]
    by_cases hc : 0 ≤ k c ∧ k c ≤ 12
    · obtain ⟨vc, hvc⟩ := Int.eq_ofNat_of_zero_le hc.1
      have e : (fun v : Nat => ((List.range n).filter fun i => decide (k i = (v : Int))).filter fun a => decide (k a = k c)) = fun v => if v = vc then (List.range n).filter fun a => decide (k a = k c) else [] := by
        funext v
        by_cases ev : v = vc
        · subst ev
          rw [if_pos rfl, hvc, List.filter_filter]
          simp
        · rw [if_neg ev, List.filter_filter]
          apply List.filter_eq_nil_iff.mpr
          intro a _ z
          rw [Bool.and_eq_true, decide_eq_true_eq, decide_eq_true_eq] at z
          omega
      rw [e, flat_one _ _ _ List.nodup_range, if_pos (List.mem_range.mpr (by omega))]
    · have e1 : (List.range n).filter (fun a => decide (k a = k c)) = [] := by
        apply List.filter_eq_nil_iff.mpr
        intro a ha z
        have := h a (List.mem_range.mp ha)
        have := of_decide_eq_true z
        exact hc (by omega)
      rw [e1]
      apply List.flatMap_eq_nil_iff.mpr
      intro v _
      rw [List.filter_filter]
      apply List.filter_eq_nil_iff.mpr
      intro a ha z
      rw [Bool.and_eq_true, decide_eq_true_eq, decide_eq_true_eq] at z
      have := h a (List.mem_range.mp ha)
      exact hc (by omega)
/-! ### words -/
def lastOne : List Nat → Option Nat
  | [] => none
  | c :: r => match lastOne r with
    | some i => some (i + 1)
    | none => if c = 49 then some 0 else none
theorem lastOne_spec : ∀ w : List Nat, (lastOne w = none ∧ ∀ i : Nat, w[i]? ≠ some 49) ∨ ∃ i : Nat, lastOne w = some i ∧ w[i]? = some 49 ∧ ∀ k : Nat, i < k → w[k]? ≠ some 49
  | [] => .inl ⟨rfl, fun i h => by simp at h⟩
  | c :: r => by
    rcases lastOne_spec r with ⟨e, h⟩ | ⟨i, e, h1, h2⟩
    · by_cases hc : c = 49
      · refine .inr ⟨0, ?_, ?_, fun k hk => ?_⟩
        · show (match lastOne r with | some i => some (i + 1) | none => if c = 49 then some 0 else none) = some 0
          rw [e]
          exact if_pos hc
        · rw [hc]
          rfl
        · obtain ⟨j, rfl⟩ : ∃ j, k = j + 1 := ⟨k - 1, by omega⟩
          exact h j
      · refine .inl ⟨?_, fun i => ?_⟩
        · show (match lastOne r with | some i => some (i + 1) | none => if c = 49 then some 0 else none) = none
          rw [e]
          exact if_neg hc
        · cases i with
          | zero => exact fun z => hc (Option.some.inj z)
          | succ j => exact h j
    · refine .inr ⟨i + 1, ?_, h1, fun k hk => ?_⟩
      · show (match lastOne r with | some i => some (i + 1) | none => if c = 49 then some 0 else none) = some (i + 1)
        rw [e]
      · obtain ⟨j, rfl⟩ : ∃ j, k = j + 1 := ⟨k - 1, by omega⟩
        exact h2 j (by omega)
def lessW (w : List Nat) : List Nat := match lastOne w with
  | none => []
  | some i => w.take i ++ 48 :: List.replicate (w.length - i - 1) 49
def stepW (ns : List Nat) (st : List (List Nat) × Option (List Nat)) (p : Nat) : List (List Nat) × Option (List Nat) :=
  let b := match st.2 with
    | none => []
    | some w => lessW w
  let a := b ++ List.replicate (ns.getD p 0 - b.length) 49
  (st.1.set p a, some a)
def okW (ns : List Nat) : List Nat → List (List Nat) × Option (List Nat) → Bool
  | [], _ => true
  | p :: r, st => (match st.2 with
    | none => true
    | some w => (lastOne w).isSome) && okW ns r (stepW ns st p)
def iv (ns : List Nat) : List Int := ns.map fun (n : Nat) => (n : Int)
def startW (ns : List Nat) : List (List Nat) × Option (List Nat) := (List.replicate ns.length [], none)
def wordsOf (ns : List Nat) : List (List Nat) := ((buckets (fun i => (iv ns).getD i 0) ns.length).foldl (stepW ns) (startW ns)).1
def lightL : List Nat := [6, 4, 4, 4, 4, 4, 5, 5, 5, 5, 6, 6, 6, 6, 6, 6, 4, 5, 6, 4]
def darkL : List Nat := [7, 2, 3, 3, 4, 4, 5, 5, 5, 6, 6, 6, 7, 7, 7, 7, 6, 7, 7, 7]
def bitsVal (w : List Nat) : Nat := w.foldl (fun n c => 2 * n + if c = 49 then 1 else 0) 0
def bitsOf : Nat → Nat → List Nat → List Nat
  | 0, _, acc => acc
  | k + 1, n, acc => bitsOf k (n / 2) ((48 + n % 2) :: acc)
def lawLess (w : List Nat) : Option (List Nat) := if bitsVal w = 0 then none else some (bitsOf w.length (bitsVal w - 1) [])
def stepL (ns : List Nat) (len : Nat) (st : Option (List (List Nat) × List Nat)) (p : Nat) : Option (List (List Nat) × List Nat) := match st with
  | none => none
  | some (f, l) => if ns.getD p 0 = len then (match (if l = [] then some [] else lawLess l) with
      | none => none
      | some b => some (f.set p (b ++ List.replicate (len - b.length) 49), b ++ List.replicate (len - b.length) 49)) else some (f, l)
def rowL (ns : List Nat) (st : Option (List (List Nat) × List Nat)) (len : Nat) : Option (List (List Nat) × List Nat) := (List.range ns.length).foldl (stepL ns len) st
def lawW (ns : List Nat) : Option (List (List Nat) × List Nat) := ((List.range 12).map (· + 1)).foldl (rowL ns) (some (List.replicate ns.length [], []))
theorem light_ok : okW lightL (buckets (fun i => (iv lightL).getD i 0) lightL.length) (startW lightL) = true := by decide +kernel
theorem dark_ok : okW darkL (buckets (fun i => (iv darkL).getD i 0) darkL.length) (startW darkL) = true := by decide +kernel
theorem light_same : (lawW lightL).map (·.1) = some (wordsOf lightL) := by decide +kernel
theorem dark_same : (lawW darkL).map (·.1) = some (wordsOf darkL) := by decide +kernel
theorem third_some : (lawW [1, 3, 3, 3, 5, 5, 6, 6, 6]).isSome = true := by decide +kernel

theorem okW_at {ns : List Nat} : ∀ (ord : List Nat) (st0 : List (List Nat) × Option (List Nat)) (i p : Nat), ord[i]? = some p → okW ns ord st0 = true → ∀ w, ((ord.take i).foldl (stepW ns) st0).2 = some w → ∃ j, lastOne w = some j
  | [], _, i, p, h, _ => by simp at h
  | q :: r, st0, 0, p, h, ok => fun w hw => by
    unfold okW at ok
    rw [Bool.and_eq_true] at ok
    have h1 := ok.1
    have hw : st0.2 = some w := hw
    rw [hw] at h1
    exact Option.isSome_iff_exists.mp h1
  | q :: r, st0, i + 1, p, h, ok => by
    unfold okW at ok
    rw [Bool.and_eq_true] at ok
    exact okW_at r (stepW ns st0 q) i p h ok.2
def LenW (st : List (List Nat) × Option (List Nat)) : Prop := ∀ w, st.2 = some w → w.length ≤ 12
theorem lessW_le (w : List Nat) : (lessW w).length ≤ w.length := by
  unfold lessW
  rcases lastOne_spec w with ⟨e, _⟩ | ⟨i, e, h1, _⟩
  · rw [e]
    exact Nat.zero_le _
  · rw [e]
    have := (List.getElem?_eq_some_iff.mp h1).1
    show (w.take i ++ 48 :: List.replicate (w.length - i - 1) 49).length ≤ w.length
    rw [List.length_append, List.length_cons, List.length_replicate, List.length_take]
    omega
theorem lenW_step {ns : List Nat} (hn : ∀ n ∈ ns, n ≤ 12) {st : List (List Nat) × Option (List Nat)} (h : LenW st) (p : Nat) : LenW (stepW ns st p) := by
  intro w hw
  have hg : ns.getD p 0 ≤ 12 := by
    rw [List.getD_eq_getElem?_getD]
    cases e : ns[p]? with
    | none => exact Nat.zero_le _
    | some n => exact hn n (List.mem_of_getElem? e)
  have e : (match st.2 with | none => [] | some w => lessW w) ++ List.replicate (ns.getD p 0 - (match st.2 with | none => [] | some w => lessW w).length) 49 = w := Option.some.inj hw
  rw [← e, List.length_append, List.length_replicate]
  cases h2 : st.2 with
  | none => show 0 + (ns.getD p 0 - 0) ≤ 12; omega
  | some u =>
    have := h u h2
    have := lessW_le u
    show (lessW u).length + (ns.getD p 0 - (lessW u).length) ≤ 12
    omega
theorem lenW_fold {ns : List Nat} (hn : ∀ n ∈ ns, n ≤ 12) : ∀ (ord : List Nat) (st : List (List Nat) × Option (List Nat)), LenW st → LenW (ord.foldl (stepW ns) st)
  | [], _, h => h
  | p :: r, st, h => lenW_fold hn r _ (lenW_step hn h p)
theorem lenW_start (ns : List Nat) : LenW (startW ns) := fun w h => nomatch h
theorem words_len (ns : List Nat) : ∀ (ord : List Nat) (st : List (List Nat) × Option (List Nat)), (ord.foldl (stepW ns) st).1.length = st.1.length
  | [], _ => rfl
  | p :: r, st => by
    rw [List.foldl_cons, words_len ns r]
    exact List.length_set
theorem mem_buckets {k : Nat → Int} {n p : Nat} (h : p ∈ buckets k n) : p < n := by
  unfold buckets at h
  obtain ⟨v, _, hv⟩ := List.mem_flatMap.mp h
  exact List.mem_range.mp (List.mem_filter.mp hv).1
theorem iv_len (ns : List Nat) : (iv ns).length = ns.length := List.length_map ..
theorem order_iv {ns : List Nat} (hn : ∀ n ∈ ns, n ≤ 12) : orderOf (iv ns) = buckets (fun i => (iv ns).getD i 0) ns.length := by
  unfold orderOf
  rw [iv_len]
  refine order_buckets _ _ fun i hi => ?_
  have e : (iv ns).getD i 0 = (ns[i] : Int) := by
    unfold iv
    rw [List.getD_eq_getElem?_getD, List.getElem?_map, List.getElem?_eq_getElem hi]
    rfl
  have := hn ns[i] (List.getElem_mem hi)
  show 0 ≤ (iv ns).getD i 0 ∧ (iv ns).getD i 0 ≤ 12
  rw [e]
  omega
theorem lens_light : ∀ w ∈ Fp.wordsOf lightL, w.length ≤ 12 := by decide +kernel
theorem lens_dark : ∀ w ∈ Fp.wordsOf darkL, w.length ≤ 12 := by decide +kernel
theorem len_light : (Fp.wordsOf lightL).length = 20 := by decide +kernel
theorem len_dark : (Fp.wordsOf darkL).length = 20 := by decide +kernel
def runT (W : List (List Nat)) (r : Nat) : List Nat := if r < 16 then W.getD r [] else W.getD (15 + r / 16) [] ++ W.getD (r - r / 16 * 16) []
theorem foldl_keep {α β : Type} (f : Option α → β → Option α) (h : ∀ b, f none b = none) : ∀ l : List β, l.foldl f none = none
  | [] => rfl
  | b :: r => by
    rw [List.foldl_cons, h]
    exact foldl_keep f h r
theorem fold_take {α β : Type} (f : Option α → β → Option α) (h : ∀ b, f none b = none) (l : List β) (s : Option α) (i : Nat) (e : (l.take i).foldl f s = none) : l.foldl f s = none := by
  rw [← List.take_append_drop i l, List.foldl_append, e]
  exact foldl_keep f h _
theorem stepL_none (ns : List Nat) (len p : Nat) : stepL ns len none p = none := rfl
theorem rowL_none (ns : List Nat) (len : Nat) : rowL ns none len = none := foldl_keep _ (stepL_none ns len) _
def ls12 : List Nat := (List.range 12).map (· + 1)
theorem ls12_at {i : Nat} (h : i < 12) : ls12[i]? = some (i + 1) := by
  unfold ls12
  rw [List.getElem?_map, List.getElem?_range h]
  rfl
theorem lawW_eq (ns : List Nat) : lawW ns = ls12.foldl (rowL ns) (some (List.replicate ns.length [], [])) := rfl
theorem lawLess_len {l b : List Nat} (h : lawLess l = some b) : b.length = l.length := by
  have key : ∀ (k n : Nat) (acc : List Nat), (bitsOf k n acc).length = k + acc.length := by
    intro k
    induction k with
    | zero => intro n acc; show acc.length = 0 + acc.length; omega
    | succ k ih =>
      intro n acc
      show (bitsOf k (n / 2) ((48 + n % 2) :: acc)).length = _
      rw [ih, List.length_cons]
      omega
  unfold lawLess at h
  split at h
  · cases h
  · have := Option.some.inj h
    rw [← this, key]
    rfl
theorem stepL_no {ns : List Nat} {len p : Nat} {f : List (List Nat)} {l : List Nat} (h : ¬ ns.getD p 0 = len) : stepL ns len (some (f, l)) p = some (f, l) := if_neg h
theorem stepL_yes {ns : List Nat} {len p : Nat} {f : List (List Nat)} {l b : List Nat} (h : ns.getD p 0 = len) (hb : (if l = [] then some [] else lawLess l) = some b) :
    stepL ns len (some (f, l)) p = some (f.set p (b ++ List.replicate (len - b.length) 49), b ++ List.replicate (len - b.length) 49) := by
  refine (if_pos h).trans ?_
  rw [hb]
theorem stepL_bad {ns : List Nat} {len p : Nat} {f : List (List Nat)} {l : List Nat} (h : ns.getD p 0 = len) (hb : (if l = [] then some [] else lawLess l) = none) : stepL ns len (some (f, l)) p = none := by
  refine (if_pos h).trans ?_
  rw [hb]
end Fp

set_option Elab.async false
set_option linter.all false
set_option maxRecDepth 100000
set_option maxHeartbeats 4000000
/-! words by lengths: which lengths have words, and that no word begins another. -/
namespace Fp
open PySem PyProof.Rows
abbrev veB : List Value := [.type "ValueError", .type "Exception", .type "BaseException", .type "object"]
theorem exm_own {K : PySem.W.Frag} {S : Addr} (h1 : PySem.W.subIn K (.ref S) (.type "BaseException") = some true) (h2 : PySem.W.isClsIn K S = true) (h3 : PySem.W.typeIn K (.ref S) = some (.type "type")) (h4 : PySem.W.subIn K (.ref S) (.ref S) = some true) : PySem.W.exmOne K (.ref S) (.ref S) = some true := by
  unfold PySem.W.isClsIn at h2
  simp [PySem.W.exmOne, PySem.W.kitCls, h1, h2, h3, h4]
def wt (n : Nat) : Nat := 2 ^ (12 - n)
def sumW (ns ps : List Nat) : Nat := (ps.map fun p => wt (ns.getD p 0)).sum
def Bits (w : List Nat) : Prop := ∀ c ∈ w, c = 48 ∨ c = 49
def lo (w : List Nat) : Nat := bitsVal w * wt w.length
theorem val_from (w : List Nat) : ∀ a : Nat, w.foldl (fun n c => 2 * n + if c = 49 then 1 else 0) a = a * 2 ^ w.length + bitsVal w := by
  induction w with
  | nil => intro a; show a = a * 1 + 0; omega
  | cons c r ih =>
    intro a
    have e1 := ih (2 * a + if c = 49 then 1 else 0)
    have e2 := ih (2 * 0 + if c = 49 then 1 else 0)
    show r.foldl _ (2 * a + if c = 49 then 1 else 0) = a * 2 ^ (r.length + 1) + r.foldl _ (2 * 0 + if c = 49 then 1 else 0)
    rw [e1, e2, Nat.pow_succ, Nat.add_mul, Nat.mul_zero, Nat.zero_add, ← Nat.add_assoc]
    congr 2
    rw [Nat.mul_comm (2 ^ r.length) 2, ← Nat.mul_assoc, Nat.mul_comm a 2]
theorem val_app (u v : List Nat) : bitsVal (u ++ v) = bitsVal u * 2 ^ v.length + bitsVal v := by
  show (u ++ v).foldl _ 0 = _
  rw [List.foldl_append]
  exact val_from v _
theorem val_cons (c : Nat) (r : List Nat) : bitsVal (c :: r) = (if c = 49 then 1 else 0) * 2 ^ r.length + bitsVal r := by
  show r.foldl _ (2 * 0 + if c = 49 then 1 else 0) = _
  rw [val_from, Nat.mul_zero, Nat.zero_add]
theorem val_ones (n : Nat) : bitsVal (List.replicate n 49) + 1 = 2 ^ n := by
  induction n with
  | zero => rfl
  | succ k ih =>
    rw [List.replicate_succ, val_cons, if_pos rfl, List.length_replicate, Nat.one_mul, Nat.pow_succ, Nat.add_assoc, ih]
    omega
theorem val_lt (w : List Nat) : bitsVal w < 2 ^ w.length := by
  induction w with
  | nil => exact Nat.one_pos
  | cons c r ih =>
    rw [val_cons, List.length_cons, Nat.pow_succ]
    split <;> omega
theorem val_none {w : List Nat} (h : ∀ i : Nat, w[i]? ≠ some 49) : bitsVal w = 0 := by
  induction w with
  | nil => rfl
  | cons c r ih =>
    rw [val_cons, if_neg (fun e => h 0 (by rw [e]; rfl)), Nat.zero_mul, Nat.zero_add]
    exact ih fun i => h (i + 1)
theorem less_val {w : List Nat} {i : Nat} (hb : Bits w) (h : lastOne w = some i) : Bits (lessW w) ∧ (lessW w).length = w.length ∧ bitsVal (lessW w) + 1 = bitsVal w := by
  rcases lastOne_spec w with ⟨e, _⟩ | ⟨i2, e, h1, h2⟩
  · rw [e] at h
    cases h
  · rw [e] at h
    cases h
    obtain ⟨hi, h1'⟩ := List.getElem?_eq_some_iff.mp h1
    have ew : w = w.take i ++ 49 :: w.drop (i + 1) := by
      conv => lhs; rw [← List.take_append_drop i w]
      rw [List.drop_eq_getElem_cons hi, h1']
    have hz : bitsVal (w.drop (i + 1)) = 0 := val_none fun k => by
      rw [List.getElem?_drop]
      exact h2 _ (by omega)
    have dl : (w.drop (i + 1)).length = w.length - i - 1 := by rw [List.length_drop]; omega
    have el : lessW w = w.take i ++ 48 :: List.replicate (w.length - i - 1) 49 := by
      unfold lessW
      rw [e]
    refine ⟨fun c hc => ?_, ?_, ?_⟩
    · rw [el] at hc
      rcases List.mem_append.mp hc with z | z
      · exact hb c (List.mem_of_mem_take z)
      · rcases List.mem_cons.mp z with z | z
        · exact .inl z
        · exact .inr (List.mem_replicate.mp z).2
    · rw [el, List.length_append, List.length_cons, List.length_replicate, List.length_take]
      omega
    · have v1 : bitsVal w = bitsVal (w.take i) * 2 ^ (w.length - i - 1 + 1) + 2 ^ (w.length - i - 1) := by
        conv => lhs; rw [ew]
        rw [val_app, val_cons, if_pos rfl, hz, List.length_cons, dl, Nat.one_mul]
        rfl
      have v2 : bitsVal (lessW w) = bitsVal (w.take i) * 2 ^ (w.length - i - 1 + 1) + bitsVal (List.replicate (w.length - i - 1) 49) := by
        rw [el, val_app, val_cons, if_neg (by decide), List.length_cons, List.length_replicate, Nat.zero_mul, Nat.zero_add]
      rw [v1, v2, Nat.add_assoc, val_ones]
theorem new_word {u : List Nat} {v n : Nat} (hb : Bits u) (hl : u.length ≤ n) (hn : n ≤ 12) (hv : bitsVal u + 1 = v) : Bits (u ++ List.replicate (n - u.length) 49) ∧ (u ++ List.replicate (n - u.length) 49).length = n ∧ lo (u ++ List.replicate (n - u.length) 49) + wt n = v * wt u.length := by
  have l : (u ++ List.replicate (n - u.length) 49).length = n := by
    rw [List.length_append, List.length_replicate]
    omega
  refine ⟨fun c hc => ?_, l, ?_⟩
  · rcases List.mem_append.mp hc with z | z
    · exact hb c z
    · exact .inr (List.mem_replicate.mp z).2
  · unfold lo
    rw [l]
    have e : bitsVal (u ++ List.replicate (n - u.length) 49) + 1 = v * 2 ^ (n - u.length) := by
      rw [val_app, List.length_replicate, Nat.add_assoc, val_ones, ← hv, Nat.add_mul, Nat.one_mul]
    have e2 : bitsVal (u ++ List.replicate (n - u.length) 49) * wt n + wt n = (bitsVal (u ++ List.replicate (n - u.length) 49) + 1) * wt n := by
      rw [Nat.add_mul, Nat.one_mul]
    rw [e2, e, Nat.mul_assoc]
    congr 1
    unfold wt
    rw [← Nat.pow_add]
    congr 1
    omega
def Ap (u v : List Nat) : Prop := lo u + wt u.length ≤ lo v ∨ lo v + wt v.length ≤ lo u
structure Iv (ns done : List Nat) (st : List (List Nat) × Option (List Nat)) : Prop where
  len : st.1.length = ns.length
  no : st.2 = none → done = []
  last : ∀ w, st.2 = some w → Bits w ∧ w.length ≤ 12 ∧ lo w + sumW ns done = 4096
  each : ∀ p ∈ done, Bits (st.1.getD p []) ∧ (st.1.getD p []).length = ns.getD p 0 ∧ 4096 ≤ lo (st.1.getD p []) + sumW ns done
  apart : ∀ p ∈ done, ∀ q ∈ done, p ≠ q → Ap (st.1.getD p []) (st.1.getD q [])
theorem iv_start (ns : List Nat) : Iv ns [] (startW ns) where
  len := List.length_replicate
  no := fun _ => rfl
  last := fun w h => nomatch h
  each := fun p h => nomatch h
  apart := fun p h => nomatch h
theorem getD_set {l : List (List Nat)} {p q : Nat} {a : List Nat} (h : p < l.length) : (l.set p a).getD q [] = if p = q then a else l.getD q [] := by
  rw [List.getD_eq_getElem?_getD, List.getElem?_set]
  by_cases e : p = q
  · rw [if_pos e, if_pos e, if_pos h]
    rfl
  · rw [if_neg e, if_neg e, List.getD_eq_getElem?_getD]
theorem iv_step {ns done : List Nat} {st : List (List Nat) × Option (List Nat)} {p : Nat} (h : Iv ns done st) (hp : p < ns.length) (nd : p ∉ done) (h12 : ns.getD p 0 ≤ 12) (hs : ∀ w, st.2 = some w → w.length ≤ ns.getD p 0 ∧ ∃ i, lastOne w = some i) : Iv ns (p :: done) (stepW ns st p) ∧ ∀ w, (stepW ns st p).2 = some w → w.length = ns.getD p 0 := by
  obtain ⟨a, ea, ba, la, sa⟩ : ∃ a, stepW ns st p = (st.1.set p a, some a) ∧ Bits a ∧ a.length = ns.getD p 0 ∧ lo a + wt (ns.getD p 0) + sumW ns done = 4096 := by
    cases e : st.2 with
    | none =>
      have n := new_word (u := []) (v := 1) (n := ns.getD p 0) (fun c hc => nomatch hc) (Nat.zero_le _) h12 rfl
      refine ⟨_, by unfold stepW; rw [e], n.1, n.2.1, ?_⟩
      rw [h.no e, n.2.2]
      rfl
    | some w =>
      obtain ⟨hl, i, hi⟩ := hs w e
      obtain ⟨b1, b2, b3⟩ := h.last w e
      obtain ⟨c1, c2, c3⟩ := less_val b1 hi
      have n := new_word (u := lessW w) (v := bitsVal w) (n := ns.getD p 0) c1 (by omega) h12 c3
      refine ⟨_, by unfold stepW; rw [e], n.1, n.2.1, ?_⟩
      rw [n.2.2, c2]
      exact b3
  have sc : sumW ns (p :: done) = wt (ns.getD p 0) + sumW ns done := by
    unfold sumW
    rw [List.map_cons, List.sum_cons]
  have g : ∀ q, (st.1.set p a).getD q [] = if p = q then a else st.1.getD q [] := fun q => getD_set (by rw [h.len]; exact hp)
  rw [ea]
  refine ⟨⟨by rw [List.length_set]; exact h.len, (fun z => nomatch z), fun w hw => ?_, fun q hq => ?_, fun q hq r hr ne => ?_⟩, fun w hw => ?_⟩
  · cases hw
    exact ⟨ba, by omega, by rw [sc]; omega⟩
  · rw [g, sc]
    by_cases e : p = q
    · rw [if_pos e, ← e]
      exact ⟨ba, la, by omega⟩
    · rw [if_neg e]
      rcases List.mem_cons.mp hq with z | z
      · exact absurd z.symm e
      · have := h.each q z
        exact ⟨this.1, this.2.1, by omega⟩
  · show Ap ((st.1.set p a).getD q []) ((st.1.set p a).getD r [])
    rw [g, g]
    by_cases e : p = q
    · rw [if_pos e, if_neg (by omega)]
      rcases List.mem_cons.mp hr with z | z
      · omega
      · have := (h.each r z).2.2
        exact .inl (by rw [la]; omega)
    · rw [if_neg e]
      by_cases e2 : p = r
      · rw [if_pos e2]
        rcases List.mem_cons.mp hq with z | z
        · omega
        · have := (h.each q z).2.2
          exact .inr (by rw [la]; omega)
      · rw [if_neg e2]
        rcases List.mem_cons.mp hq with z | z
        · omega
        · rcases List.mem_cons.mp hr with y | y
          · omega
          · exact h.apart q z r y ne
  · cases hw
    exact la
theorem wt_pos (n : Nat) : 0 < wt n := Nat.pow_pos (by decide)
theorem iv_run {ns : List Nat} : ∀ (rest done : List Nat) (st : List (List Nat) × Option (List Nat)), Iv ns done st → rest.Nodup → (∀ p ∈ rest, p < ns.length ∧ p ∉ done ∧ ns.getD p 0 ≤ 12) → rest.Pairwise (fun p q => ns.getD p 0 ≤ ns.getD q 0) → (∀ w, st.2 = some w → ∀ p ∈ rest, w.length ≤ ns.getD p 0) →
    (okW ns rest st = true → Iv ns (rest.reverse ++ done) (rest.foldl (stepW ns) st)) ∧ (okW ns rest st = false → 4096 < sumW ns done + sumW ns rest)
  | [], done, st, h, _, _, _, _ => ⟨fun _ => h, fun z => nomatch z⟩
  | p :: r, done, st, h, nd, hp, so, hl => by
    have n1 := List.nodup_cons.mp nd
    have s1 := List.pairwise_cons.mp so
    have p1 := hp p (List.mem_cons_self ..)
    have sr : sumW ns (p :: r) = wt (ns.getD p 0) + sumW ns r := by
      unfold sumW
      rw [List.map_cons, List.sum_cons]
    by_cases ok : ∀ w, st.2 = some w → ∃ i, lastOne w = some i
    · have okr : okW ns (p :: r) st = okW ns r (stepW ns st p) := by
        show ((match st.2 with | none => true | some w => (lastOne w).isSome) && okW ns r (stepW ns st p)) = _
        cases e : st.2 with
        | none => rfl
        | some w =>
          obtain ⟨i, hi⟩ := ok w e
          show ((lastOne w).isSome && _) = _
          rw [hi]
          rfl
      obtain ⟨st1, st2⟩ := iv_step h p1.1 p1.2.1 p1.2.2 fun w hw => ⟨hl w hw p (List.mem_cons_self ..), ok w hw⟩
      have ih := iv_run r (p :: done) (stepW ns st p) st1 n1.2 (fun q hq => ?_) s1.2 (fun w hw q hq => ?_)
      · rw [okr]
        refine ⟨fun z => ?_, fun z => ?_⟩
        · have := ih.1 z
          rw [List.reverse_cons, List.append_assoc]
          exact this
        · have := ih.2 z
          have sc : sumW ns (p :: done) = wt (ns.getD p 0) + sumW ns done := by
            unfold sumW
            rw [List.map_cons, List.sum_cons]
          omega
      · have := hp q (List.mem_cons_of_mem _ hq)
        refine ⟨this.1, fun z => ?_, this.2.2⟩
        rcases List.mem_cons.mp z with y | y
        · exact n1.1 (y ▸ hq)
        · exact this.2.1 y
      · rw [st2 w hw]
        exact s1.1 q hq
    · obtain ⟨w, hw, no⟩ : ∃ w, st.2 = some w ∧ ¬ ∃ i, lastOne w = some i := by
        cases e : st.2 with
        | none => exact absurd (fun w hw => nomatch e.symm.trans hw) ok
        | some w => exact ⟨w, rfl, fun z => ok fun u hu => by rw [e] at hu; cases hu; exact z⟩
      have hz : lastOne w = none := by
        cases e : lastOne w with
        | none => rfl
        | some i => exact absurd ⟨i, e⟩ no
      have okf : okW ns (p :: r) st = false := by
        show ((match st.2 with | none => true | some w => (lastOne w).isSome) && okW ns r (stepW ns st p)) = false
        rw [hw]
        show ((lastOne w).isSome && _) = false
        rw [hz]
        rfl
      rw [okf]
      refine ⟨(fun z => nomatch z), fun _ => ?_⟩
      have l0 : lo w = 0 := by
        rcases lastOne_spec w with ⟨_, h2⟩ | ⟨i, e, _⟩
        · unfold lo
          rw [val_none h2, Nat.zero_mul]
        · exact absurd ⟨i, e⟩ no
      have := (h.last w hw).2.2
      have := wt_pos (ns.getD p 0)
      omega
theorem prefix_lo {u v : List Nat} (hv : v.length ≤ 12) (h : v.take u.length = u) : lo u ≤ lo v ∧ lo v < lo u + wt u.length := by
  have ll : u.length ≤ v.length := by
    have := congrArg List.length h
    rw [List.length_take] at this
    omega
  have ev : v = u ++ v.drop u.length := by
    conv => lhs; rw [← List.take_append_drop u.length v]
    rw [h]
  have e1 : bitsVal v = bitsVal u * 2 ^ (v.length - u.length) + bitsVal (v.drop u.length) := by
    conv => lhs; rw [ev]
    rw [val_app, List.length_drop]
  have e2 := val_lt (v.drop u.length)
  rw [List.length_drop] at e2
  have e3 : wt u.length = 2 ^ (v.length - u.length) * wt v.length := by
    unfold wt
    rw [← Nat.pow_add]
    congr 1
    omega
  unfold lo
  rw [e1, e3, Nat.add_mul, Nat.mul_assoc]
  have := wt_pos v.length
  refine ⟨Nat.le_add_right _ _, Nat.add_lt_add_left ?_ _⟩
  exact Nat.mul_lt_mul_of_pos_right e2 this
theorem ap_no {u v : List Nat} (hv : v.length ≤ 12) (h : Ap u v) : v.take u.length ≠ u := fun e => by
  have := prefix_lo hv e
  have := wt_pos v.length
  rcases h with z | z <;> omega
theorem sum_range (ns : List Nat) : sumW ns (List.range ns.length) = (ns.map wt).sum := by
  unfold sumW
  congr 1
  apply List.ext_getElem?
  intro i
  rw [List.getElem?_map, List.getElem?_map]
  by_cases h : i < ns.length
  · rw [List.getElem?_range h, List.getElem?_eq_getElem h, Option.map_some, Option.map_some, List.getD_eq_getElem?_getD, List.getElem?_eq_getElem h]
    rfl
  · rw [List.getElem?_eq_none (by rw [List.length_range]; omega), List.getElem?_eq_none (by omega)]
    rfl
theorem iv_getD (ns : List Nat) (p : Nat) : (iv ns).getD p 0 = ((ns.getD p 0 : Nat) : Int) := by
  unfold iv
  rw [List.getD_eq_getElem?_getD, List.getElem?_map, List.getD_eq_getElem?_getD]
  cases ns[p]? <;> rfl
/-- the whole: refused where the parts are too many; else the words fit and stand apart -/
theorem words_whole {ns : List Nat} (hn : ∀ n ∈ ns, n ≤ 12) :
    (okW ns (buckets (fun i => (iv ns).getD i 0) ns.length) (startW ns) = false → 4096 < (ns.map wt).sum) ∧
    (okW ns (buckets (fun i => (iv ns).getD i 0) ns.length) (startW ns) = true → (ns.map wt).sum ≤ 4096 ∧ (wordsOf ns).length = ns.length ∧ (∀ p, p < ns.length → Bits ((wordsOf ns).getD p []) ∧ ((wordsOf ns).getD p []).length = ns.getD p 0) ∧
      ∀ p q, p < ns.length → q < ns.length → p ≠ q → ((wordsOf ns).getD q []).take ((wordsOf ns).getD p []).length ≠ (wordsOf ns).getD p []) := by
  have ho := order_iv hn
  have perm : (orderOf (iv ns)).Perm (List.range ns.length) := by
    unfold orderOf
    rw [iv_len]
    exact List.mergeSort_perm ..
  have srt : (orderOf (iv ns)).Pairwise (fun p q => ns.getD p 0 ≤ ns.getD q 0) := by
    have tr : ∀ a b c : Nat, leK (fun i => (iv ns).getD i 0) a b = true → leK (fun i => (iv ns).getD i 0) b c = true → leK (fun i => (iv ns).getD i 0) a c = true := fun a b c h1 h2 => by
      unfold leK at *
      have := of_decide_eq_true h1
      have := of_decide_eq_true h2
      exact decide_eq_true (by omega)
    have to : ∀ a b : Nat, (leK (fun i => (iv ns).getD i 0) a b || leK (fun i => (iv ns).getD i 0) b a) = true := fun a b => by
      unfold leK
      rw [Bool.or_eq_true, decide_eq_true_eq, decide_eq_true_eq]
      omega
    have := List.pairwise_mergeSort tr to (List.range (iv ns).length)
    refine List.Pairwise.imp (fun {a b} h => ?_) this
    have h2 := of_decide_eq_true h
    have h3 : (iv ns).getD a 0 ≤ (iv ns).getD b 0 := h2
    rw [iv_getD, iv_getD] at h3
    omega
  rw [← ho]
  have hg : ∀ p, ns.getD p 0 ≤ 12 := fun p => by
    rw [List.getD_eq_getElem?_getD]
    cases e : ns[p]? with
    | none => exact Nat.zero_le _
    | some n => exact hn n (List.mem_of_getElem? e)
  have main := iv_run (ns := ns) (orderOf (iv ns)) [] (startW ns) (iv_start ns) (perm.nodup_iff.mpr List.nodup_range) (fun p hp => ⟨List.mem_range.mp (perm.mem_iff.mp hp), (fun z => nomatch z), hg p⟩) srt (fun w hw => nomatch hw)
  have es : sumW ns (orderOf (iv ns)) = (ns.map wt).sum := by
    rw [← sum_range]
    unfold sumW
    exact (perm.map _).sum_nat
  refine ⟨fun z => ?_, fun z => ?_⟩
  · have := main.2 z
    rw [es] at this
    have s0 : sumW ns [] = 0 := rfl
    omega
  · have I := main.1 z
    have hw : ((orderOf (iv ns)).foldl (stepW ns) (startW ns)).1 = wordsOf ns := by
      unfold wordsOf
      rw [ho]
    have sr : sumW ns ((orderOf (iv ns)).reverse ++ []) = (ns.map wt).sum := by
      rw [← es, List.append_nil]
      unfold sumW
      exact ((List.reverse_perm _).map _).sum_nat
    have mem : ∀ p, p < ns.length → p ∈ (orderOf (iv ns)).reverse ++ [] := fun p hp => by
      rw [List.append_nil, List.mem_reverse]
      exact perm.mem_iff.mpr (List.mem_range.mpr hp)
    refine ⟨?_, by rw [← hw]; exact I.len, fun p hp => ?_, fun p q hp hq ne => ?_⟩
    · rw [← sr]
      cases e : ((orderOf (iv ns)).foldl (stepW ns) (startW ns)).2 with
      | none =>
        rw [I.no e]
        exact Nat.zero_le _
      | some w =>
        have := (I.last w e).2.2
        omega
    · rw [← hw]
      have := I.each p (mem p hp)
      exact ⟨this.1, this.2.1⟩
    · rw [← hw]
      have l := (I.each q (mem q hq)).2.1
      exact ap_no (by rw [l]; exact hg q) (I.apart p (mem p hp) q (mem q hq) ne)
theorem okW_snoc {ns : List Nat} (p : Nat) : ∀ (l : List Nat) (st : List (List Nat) × Option (List Nat)), okW ns l st = true → (∀ w, (l.foldl (stepW ns) st).2 = some w → ∃ i, lastOne w = some i) → okW ns (l ++ [p]) st = true
  | [], st, _, h => by
    show ((match st.2 with | none => true | some w => (lastOne w).isSome) && true) = true
    cases e : st.2 with
    | none => rfl
    | some w =>
      obtain ⟨i, hi⟩ := h w e
      show ((lastOne w).isSome && true) = true
      rw [hi]
      rfl
  | q :: r, st, ok, h => by
    have ok : ((match st.2 with | none => true | some w => (lastOne w).isSome) && okW ns r (stepW ns st q)) = true := ok
    rw [Bool.and_eq_true] at ok
    show ((match st.2 with | none => true | some w => (lastOne w).isSome) && okW ns (r ++ [p]) (stepW ns st q)) = true
    rw [Bool.and_eq_true]
    exact ⟨ok.1, okW_snoc p r _ ok.2 h⟩
end Fp

set_option Elab.async false
set_option linter.all false
set_option maxRecDepth 100000
set_option maxHeartbeats 4000000
/-! within an except suite (and in defs called from one): a list comprehension, isinstance of the handled error. -/
namespace Fp
open PySem PySem.Spec PyProof.Rows L2 L2H HotX
section
variable {X : Cx}
/-- the block of a comprehension that keeps the pins of the def around it -/
abbrev hotBlk (X : Cx) (s : Shared) (H : Hp) (scope : Scope) (ce : Env) (fp : List Addr) : Cx := { X.blk s H scope ce fp with pn := X.pn }
theorem hotBlk_hot {s : Shared} {H : Hp} {scope : Scope} {ce : Env} {fp : List Addr} (hc : HotC X) : HotC (hotBlk X s H scope ce fp) := hc
theorem hotBlk_inv {pins : List (Addr × Obj)} {σ τ : L2.St} {H H' : Hp} {s s' : Shared} {scope : Scope} {ce : Env} {fp : List Addr} (I : Inv X pins σ H s) (J : Inv (X.blk s H scope ce fp) [] τ H' s') (k : ∀ b o, s.heap.get? b = some o → s'.heap.get? b = some o) (hH : ∀ b, H b = none → b < s.heap.objs.size → H' b = none) (hl : s.heap.objs.size ≤ ce.locals) :
    Inv (hotBlk X s H scope ce fp) [] τ H' s' :=
  ⟨⟨J.ok.mod, J.ok.kind, J.ok.glob, J.ok.blt, J.ok.above, J.ok.inj, J.ok.has, J.ok.cab, J.ok.hd, J.ok.frames, J.ok.stk, J.ok.exf, J.ok.bs, J.ok.bsz, J.ok.noex, J.ok.exfs, J.ok.funs, J.ok.frf⟩, J.os, J.bare, J.base, J.loc, J.cell, J.free, J.freeC, fun p hp => by
    have hp : p ∈ X.pn := by simpa using hp
    obtain ⟨g, f, l, n, c⟩ := I.pin p (List.mem_append_left _ hp)
    have lt := Heap.lt_size g
    refine ⟨k _ _ g, hH _ f lt, fun z => ?_, fun hm => ?_, c⟩
    · have z : p.1 = ce.locals := z
      rw [z] at lt
      exact absurd lt (Nat.not_lt.mpr hl)
    · exact (List.mem_cons.mp (I.stkSub p.1 hm)).elim l n, J.hok, J.len⟩
theorem pe_lcHot {elt tg iter : Expr} {scope : Scope} {own : List (Str × Nat)} {pos : Pos} {wi : TI} {g : TG} {te : TE} (hc : HotC X) (hN : X.N.Nodup) (hi : PIH X tg iter wi) (ok : BlkOk X.N X.env.scope scope own)
    (hg : ∀ (s : Shared) (H : Hp) (C : Addr) (cl : List (Str × Addr)) (fp : List Addr), PG (hotBlk X s H scope (compEnvC scope cl C X.env) fp) tg g)
    (he : ∀ (s : Shared) (H : Hp) (C : Addr) (cl : List (Str × Addr)) (fp : List Addr), PE (hotBlk X s H scope (compEnvC scope cl C X.env) fp) elt te) (hs : ∀ x, foldedSetIterable iter X.env x = pure x := by intro _; rfl) :
    PE X (.ListComp elt [⟨tg, iter, [], 0⟩] scope pos) (tLc wi g tYes te (own.map (·.2))) := by
  refine ⟨fun pins s σ H Q I h => ?_⟩
  rw [eval_ListComp]
  have cf : ∀ y ∈ scope.names, y.2 = .free → ∃ c, X.env.cells.lookup y.1 = some c := fun y hy e => (ok.free y hy e).elim (fun k => I.ok.has _ (.inl k)) (fun k => I.ok.has _ (.inr k))
  refine wpAny_comprehension_free rfl hs (closure_ok cf) ok.kind (fun y hy e => by rw [ok.uniq y hy, e]) (thn (hi.run pins s σ H _ I h) fun xv s1 hx => thn hx fun itv s2 h2 => ?_)
  obtain ⟨it, fp, tn, J, H2, rfl, I2, T, st2, f2, q⟩ := h2
  refine wpAny_newObj_type (newEnv_comp ?_) (by show 0 ≤ sizeLine; decide)
  obtain ⟨D, hD⟩ : ∃ D, s2.heap.objs.size = D := ⟨_, rfl⟩
  obtain ⟨s3, e3⟩ : ∃ s3 : Shared, s3 = { s2 with heap := s2.heap.push { cls := .type "list", data := .seq ([] : List Value).toArray } } := ⟨_, rfl⟩
  obtain ⟨H3, eH⟩ : ∃ H3 : Hp, H3 = upd H2 D (.lst []) := ⟨_, rfl⟩
  obtain ⟨W, ⟨m0, w0⟩, turn⟩ := q D (I2.hok.fresh (Nat.le_of_eq hD))
  rw [← eH] at w0
  have k23 : ∀ b o, s2.heap.get? b = some o → s3.heap.get? b = some o := fun b o z => by
    rw [e3]
    exact Heap.get?_push_of_some _ z
  have z23 : s3.heap.objs.size = s2.heap.objs.size + 1 := by rw [e3]; exact Heap.size_push ..
  have I3 : Inv X pins σ H3 s3 := by
    rw [e3, eH]
    refine I2.laid (t' := s2.toks) (fun b o z => Heap.get?_push_of_some _ z) (Nat.le_of_eq hD) ⟨Nat.zero_le _, [], 0, .nil, ?_⟩
    rw [← hD]
    exact Heap.get?_push_size _ rfl
  have f3 : ∀ b ∈ fp, FpOk X pins H3 b ∧ b < s3.heap.objs.size := fun b hb => by
    obtain ⟨o, z, _⟩ := T.obj _ _ st2 b hb
    have lt := Heap.lt_size z
    refine ⟨⟨?_, (f2 b hb).2⟩, by rw [z23]; exact Nat.lt_succ_of_lt lt⟩
    rw [eH, upd_ne (by rw [← hD]; exact Nat.ne_of_lt lt)]
    exact (f2 b hb).1
  obtain ⟨ce, ece⟩ : ∃ ce : Env, ce = compEnvC scope (cellsFrom (s3.heap.objs.size + 1) scope.names (cloFrom X.env.cells scope.names [])) s3.heap.objs.size X.env := ⟨_, rfl⟩
  obtain ⟨s4, e4⟩ : ∃ s4 : Shared, s4 = { s3 with heap := pushCells (s3.heap.push { cls := .type "dict", data := .dict #[] }) scope.names } := ⟨_, rfl⟩
  have k34 : ∀ b o, s3.heap.get? b = some o → s4.heap.get? b = some o := fun b o z => by
    rw [e4]
    exact pushCells_keeps _ _ _ _ (Heap.get?_push_of_some _ z)
  have cL : ce.locals = s3.heap.objs.size := by rw [ece]; rfl
  have I4 : Inv (hotBlk X s3 H3 scope ce fp) [] (wipe σ (own.map (·.2))) H3 s4 := by
    refine hotBlk_inv I3 ?_ k34 (fun b z _ => z) (Nat.le_of_eq cL.symm)
    rw [ece, e4]
    exact block_start I3 ok hN f3
  have pg : PG (hotBlk X s3 H3 scope ce fp) tg g := by rw [ece]; exact hg _ _ _ _ _
  have pe : PE (hotBlk X s3 H3 scope ce fp) elt te := by rw [ece]; exact he _ _ _ _ _
  have st4 : tn 0 s4.heap := T.keep _ _ _ st2 fun b _ o z => k34 _ _ (k23 _ _ z)
  have fpb : ∀ {τ : L2.St} {H' : Hp} {s' : Shared}, Inv (hotBlk X s3 H3 scope ce fp) [] τ H' s' → (∀ b ∈ fp, H' b = none) → ∀ b ∈ fp, FpOk (hotBlk X s3 H3 scope ce fp) [] H' b := fun {τ H' s'} I' hn b hb =>
    ⟨hn b hb, (I'.ok.exf b hb).1, I'.ok.exfs b hb, .inl hb, fun x c z => (I'.ok.exf b hb).2 x c z, fun p hp => (f3 b hb).1.2.2.2.2.2 p (List.mem_append_left _ (by simpa using hp))⟩
  have hot4 : HotC (hotBlk X s3 H3 scope ce fp) := hc
  show codeAny _ _ (.compStart (.ListComp elt [⟨tg, iter, [], 0⟩] scope pos) 0 (.ref it) (.ref s2.heap.objs.size) _) _ _
  rw [← e3, ← e4, hD]
  show codeAny _ _ (.compStart _ 0 _ _ (compEnvC scope (cellsFrom (s3.heap.objs.size + 1) scope.names (cloFrom X.env.cells scope.names [])) s3.heap.objs.size X.env)) (compPost _ _ _ none _ _ s3.heap.objs.size) _
  rw [← ece, ← cL]
  have loop : codeAny (model X.prog X.w) X.A (.compLoop (.ListComp elt [⟨tg, iter, [], 0⟩] scope pos) 0 (.ref it) (.ref D) ce) (compPost (model X.prog X.w) X.A X.xe none (EP X pins σ Q) (.ref D) ce.locals) s4 := by
    refine compLoop_any (fun n s' => ∃ i H', Inv (hotBlk X s3 H3 scope ce fp) [] (wipe σ (own.map (·.2))) H' s' ∧ tn i s'.heap ∧ (∀ b ∈ fp, H' b = none) ∧ W i n H') ?_ m0 ⟨0, H3, I4, st4, fun b hb => (f3 b hb).1.1, w0⟩
    rintro n s5 ⟨i, H5, I5, st5, n5, w5⟩
    rcases turn i n H5 w5 with ⟨stop, qq⟩ | ⟨go, Nx, hNx, step⟩
    · refine thnF (T.done (hotBlk X s3 H3 scope ce fp) rfl rfl rfl hot4 i [] s5 _ H5 (fun _ _ => False) I5 (fpb I5 n5) st5 stop) fun r s6 ⟨hr, I6⟩ => ?_
      subst hr
      have I7 : Inv X pins σ H5 s6 := I3.call' (ch := fp) I6.os I6.base I6.hok I6.bare fun b hb => ⟨(f3 b hb).1.2.2.2.1, (f3 b hb).1.2.1, (f3 b hb).1.2.2.2.2.1, (f3 b hb).1.2.2.2.2.2⟩
      obtain ⟨m, hn, _⟩ := I6.loc
      have fr : FpOk X pins H5 ce.locals := I3.fpOk (Nat.le_of_eq cL.symm) I6.free
      refine ⟨m, hn, fun h'' sb => ?_⟩
      exact ⟨.ref D, H5, I7.turned (t' := s6.toks) (fun b o hb z => (sb.2 b hb).trans z) fr.1 fr.2.1 fr.2.2.2.1 fr.2.2.2.2.1 fr.2.2.2.2.2, rfl, qq⟩
    · refine thnF (T.item (hotBlk X s3 H3 scope ce fp) rfl rfl rfl hot4 i [] s5 _ H5 (fun _ _ => False) I5 (fpb I5 n5) st5 go) fun r s6 ⟨u, hr, h6⟩ => ?_
      subst hr
      refine thnF h6 fun _ s7 ⟨x, H7, I7, r7, y7, st7, n7⟩ => ?_
      refine thnF (pg.run _ s7 _ H7 x u _ (I7.pinned (fpb I7 n7) (T.obj _ _ st7)) r7 (step x H7 y7)) fun _ s8 ⟨σ8, H8, I8, hw8, q8⟩ => ?_
      refine thnF ((pts_nil (X := hotBlk X s3 H3 scope ce fp)).run _ s8 σ8 H8 (fun b H' => b = true ∧ te σ8 H' fun y H4 => ∃ acc, H4 D = some (.lst acc) ∧ acc.length < sizeLine ∧ Nx (upd H4 D (.lst (acc ++ [y])))) I8 ⟨rfl, q8⟩) fun b s8' ⟨H8', I8', hb, q8'⟩ => ?_
      subst hb
      rw [if_pos rfl]
      refine thnF (pe.run _ s8' σ8 H8' _ I8' q8') fun z s9 ⟨yv, H9, I9, r9, acc, hD9, hz9, nx⟩ => ?_
      refine app_ok (X := hotBlk X s3 H3 scope ce fp) I9 hD9 hz9 r9 fun s10 I10 => ?_
      obtain ⟨m', hm, w'⟩ := hNx _ nx
      have back : ∀ b ∈ fp, ∀ o, s7.heap.get? b = some o → s10.heap.get? b = some o ∧ _ := fun b hb o e =>
        let z := I10.pin (b, o) (List.mem_append_right _ (List.mem_append_right _ (mem_pinsAt hb e)))
        (⟨z.1, z.2.1⟩ : s10.heap.get? b = some o ∧ upd H9 D (.lst (acc ++ [yv])) b = none)
      refine ⟨m', hm, i + 1, _, (I10.unpinned (pins := [])).weak (by rw [← hw8, wipe_length]) (fun j v e => ?_), T.keep _ _ _ st7 fun b hb o e => (back b hb o e).1, fun b hb => ?_, w'⟩
      · rw [← hw8] at e
        exact (wipe_some e).1
      · obtain ⟨o, e, _⟩ := T.obj _ _ st7 b hb
        exact (back b hb o e).2
  exact codeAny_compStart_list loop (T.self X.A 0 _ _ _ st4 loop)
end
/-! ### defs that take the handled error -/
/-- the def f keeps spx, told of the handled error: its address, class and dict -/
structure FnP (P : Program) (w : World) (K : PySem.W.Frag) (mg : Str → Option Value) (base : Heap) (k : Nat) (f : Addr) (fd : FuncData) (ps : List Str) (spx : Addr → Value → Option Addr → Sp) : Prop where
  len : ∀ a cls d vs H Q E, spx a cls d vs H Q E → vs.length = ps.length
  run : ∀ (A : Around) (outer : List Env) (s : Shared) (H : Hp) (args : Args) (us : List Value) (vs : List V) (Q : VK) (p : Addr × Obj) (cls : Value) (d : Option Addr), RoomH k A → Hot1 A p → Zc cls d p.2 → PinOk outer H s p → Env0 P w K mg base A outer s H → BindsTo s fd args (ps.zip us) → Vals vs us → spx p.1 cls d vs H Q E0 →
    codeAny (model P w) A (.call (.ref f) args) (CR CX0 outer P w H s Q E0) s
theorem fnP_of {P : Program} {w : World} {K : PySem.W.Frag} {mg : Str → Option Value} {base : Heap} {k : Nat} {f : Addr} {x qual : Str} {st : Stmt} {fd : FuncData} {N ps : List Str} {spx : Addr → Value → Option Addr → Sp} (F : Fun K x qual st f fd) (S : FnScope N ps (defScope st))
    (len : ∀ a cls d vs H Q E, spx a cls d vs H Q E → vs.length = ps.length)
    (hbody : ∀ (cdv : Value) (A : Around) (outer : List Env) (s : Shared) (H : Hp) (vs : List V) (Q : VK) (p : Addr × Obj) (cls : Value) (d : Option Addr), Hot1 A p → Zc cls d p.2 → RoomH k (A.deeper (envOfC qual (defScope st) s.heap.objs.size f cdv)) → spx p.1 cls d vs H Q E0 →
      ∃ t, PSs (cxH CX0 P w K mg base N qual (defScope st) f cdv A outer s H E0 p) (defBody st) t ∧ t { nx := fun _ H' => Q .non H', rt := Q } (L2.start N vs) H) :
    FnP P w K mg base (k + 1) f fd ps spx := by
  obtain ⟨oc, od, kV, doc, pm, an, cdv, ct, osl, rfl, lk, hcd⟩ := F.ex
  refine ⟨len, fun A outer s H args us vs Q p cls d hr hot hz hpin e0 hb r hsp => ?_⟩
  have stay : ∀ b o, base.get? b = some o → s.heap.get? b = some o := fun b o z => (e0.bs b o z).1
  have KX := e0.mod.kin.keeps stay
  refine codeAny_call_function hr.depth (KX _ _ lk) rfl S.co S.gen rfl (PySem.W.codeRec_of KX hcd) (hb _ _ _ _ ?_)
  refine wpAny_newFunctionEnv_cells S.kind (fun y hy => (S.par y.1 (List.of_mem_zip hy).1).elim .inl fun z => .inr ⟨z, PySem.W.cellsFrom_some _ _ _ (.inl z)⟩) fun env he s1 y => ?_
  subst he
  refine ⟨(e0.mod.nolimit.keeps stay).keeps y.toInCall.keep, codeAny_func ?_⟩
  obtain ⟨t, ht, hq⟩ := hbody cdv A outer s H vs Q p cls d hot hz (hr.deeper _) hsp
  refine wpAny_mono (ht.run [] s1 (L2.start N vs) H _ (inv_startH S hpin e0 (len _ _ _ _ _ _ _ hsp) r y) hq) (fun fl s' hs => ?_) fun e s' hs => hs
  cases fl with
  | ret u =>
    obtain ⟨v, σ', H', J, rv, z⟩ := hs
    exact ⟨v, H', J.os, J.bare, J.base, J.hok, rv, z⟩
  | next =>
    obtain ⟨σ', H', J, z⟩ := hs
    exact ⟨.non, H', J.os, J.bare, J.base, J.hok, rfl, z⟩
  | brk => exact hs.elim fun _ z => z.elim fun _ z => z.2.elim
  | cont => exact hs.elim fun _ z => z.elim fun _ z => z.2.elim
section
variable {X : Cx}
theorem call_isPin {p : Addr × Obj} {D : Addr} (C : ExcC X.K D) (hp : p ∈ X.pn) (hz : Zc (.ref D) none p.2) (hf : ∃ vs, p.2.data = .fields vs) : CallR X (.builtin "isinstance") (rIsE X.K D p.1) := by
  intro pins s σ H xs us Q I r h
  obtain ⟨c, cv, b, rfl, hcv, e, q⟩ := h
  obtain ⟨u1, u2, rfl, r1, r2⟩ := vals2 r
  obtain rfl : u1 = Value.ref p.1 := r1
  obtain rfl := hcv _ r2
  obtain ⟨hget, _⟩ := I.pin p (List.mem_append_left _ hp)
  obtain ⟨vs, hv⟩ := hf
  obtain ⟨pa, oc, od, oda, osl⟩ := p
  obtain ⟨h1, h2⟩ := hz
  dsimp only at h1 h2 hv
  subst h1 h2 hv
  exact PySem.W.kia_one (PySem.W.handS_kitx_exc C.hg C.hk C.hs C.hd C.ha C.hn C.ht C.hm) I.kIn (⟨hget, rfl, rfl, trivial⟩ : PySem.W.InstAt s.heap pa _ D none) e (fun z => nomatch z) fun tk => ⟨.bl b, H, I.kept (t' := tk) fun _ _ z => z, rfl, q⟩
/-- f(e, ..) within the suite of the error at p -/
def tCallP (spx : Addr → Value → Option Addr → Sp) (a : Addr) (cls : Value) (d : Option Addr) (t : TA) : TE := fun σ H Q => t σ H fun vs H1 => spx a cls d vs H1 Q E0
theorem pe_callP {k : Nat} {f : Addr} {fd : FuncData} {ps : List Str} {spx : Addr → Value → Option Addr → Sp} {x : Str} {q pos : Pos} {e : Expr} {es : List Expr} {t : TA} {p : Addr × Obj} {cls : Value} {d : Option Addr} (F : FnP X.prog X.w X.K X.mg X.base k f fd ps spx) (hr : RoomH k X.A) (hp : p ∈ X.pn) (hot : Hot1 X.A p) (hz : Zc cls d p.2)
    (hg : Gl X x) (hm : X.mg x = some (.ref f)) (hk : PySem.W.keepIn X.K (.ref f) = true) (hb : Binds X.K fd ps []) (ha : PA X (e :: es) t)
    (hdb : (x == ("__debug__" : Str)) = false := by decide) (he : starEach (e :: es) X.env = (false, eval e X.env) :: starEach es X.env := by rfl) (hpl : (backTo pos (starEach es X.env)).any (·.1) = false := by rfl) :
    PE X (.Call (.Name x q) (e :: es) [] pos) (tCallP spx p.1 cls d t) := by
  refine ⟨fun pins s σ H Q I h => ?_⟩
  refine wpAny_Call_Name_kw (ld_glob I hg hm ?_ hdb)
  refine PySem.W.callWith_K (h₀ := X.base) I.ok.mod.kin hk (thn (ha.run pos pins s σ H _ I h) fun us s1 ⟨vs, H1, I1, r, h1⟩ => ⟨I1.kIn, ?_⟩) he hpl
  have hl : us.length = ps.length := by rw [← r.length]; exact F.len _ _ _ _ _ _ _ h1
  have b := hb s1 us I1.kIn (by rw [List.append_nil]; exact hl)
  rw [List.append_nil] at b
  have P1 := I1.pin p (List.mem_append_left _ hp)
  have hpin : PinOk X.stack H1 s1 p := ⟨P1.1, P1.2.1, fun hm => (List.mem_cons.mp (I1.stkSub p.1 hm)).elim P1.2.2.1 P1.2.2.2.1, P1.2.2.2.2⟩
  refine wpAny_call (codeAny_mono (F.run X.A X.stack s1 H1 ⟨us, []⟩ us vs Q p cls d hr hot hz hpin I1.env0 b r h1) fun r s' hq => ?_)
  cases r with
  | error e => exact False.elim hq
  | ok fl =>
    cases fl with
    | ret u => exact I1.after hq
    | next => exact False.elim hq
    | brk => exact False.elim hq
    | cont => exact False.elim hq
end
theorem pe_callE {X : Cx} {k : Nat} {f : Addr} {fd : FuncData} {ps : List Str} {spx : Addr → Value → Option Addr → Sp} {x : Str} {q pos : Pos} {e : Expr} {es : List Expr} {t : TA} {a : Addr} {oe : Obj} {cls : Value} {d : Option Addr} (F : FnP X.prog X.w X.K X.mg X.base k f fd ps spx) (hr : RoomH k X.A) (hp : (a, oe) ∈ X.pn) (hot : Hot1 X.A (a, oe)) (hz : Zc cls d oe)
    (hg : Gl X x) (hm : X.mg x = some (.ref f)) (hk : PySem.W.keepIn X.K (.ref f) = true) (hb : Binds X.K fd ps []) (ha : PA X (e :: es) t)
    (hdb : (x == ("__debug__" : Str)) = false := by decide) (he : starEach (e :: es) X.env = (false, eval e X.env) :: starEach es X.env := by rfl) (hpl : (backTo pos (starEach es X.env)).any (·.1) = false := by rfl) :
    PE X (.Call (.Name x q) (e :: es) [] pos) (tCallP spx a cls d t) := pe_callP (p := (a, oe)) F hr hp hot hz hg hm hk hb ha hdb he hpl
theorem roomH_mark {j k : Nat} {A : Around} {v : Option Value} (r : Room k A) (h : j ≤ k) : RoomH j (A.mark v) := (roomH_of (r.mono h) : RoomH j A).rec fun d u => ⟨d, u⟩
theorem _root_.L2H.RoomH.units {k : Nat} {A : Around} (r : RoomH k A) : A.units + 64 < cLine := by
  have := r.un
  omega
theorem takes0N {X : Cx} : L2N.Takes X (fun _ _ _ _ => False) := fun _ _ x => by
  obtain ⟨_, _, _, _, _, _, _, _, _, _, _, _, _, _, _, _, z⟩ := x
  exact z.elim
theorem okXN {P : Program} {w : World} {K : PySem.W.Frag} {mg : Str → Option Value} {base : Heap} {x qual : Str} {st : Stmt} {f : Addr} {fd : FuncData} {N ps : List Str} {k : Nat} {sp : Sp} (F : Fun K x qual st f fd) (S : FnScope N ps (defScope st)) (len : ∀ vs H Q E, sp vs H Q E → vs.length = ps.length)
    (hbody : ∀ (cdv : Value) (A : Around) (outer : List Env) (s : Shared) (H : Hp) (vs : List V) (Q : VK) (E : XK), Room k (A.deeper (envOfC qual (defScope st) s.heap.objs.size f cdv)) → sp vs H Q E →
      ∃ t, PSs (cxOf (L2N.CX P w) P w K mg base N qual (defScope st) f cdv A outer s H E) (defBody st) t ∧ t { nx := fun _ H' => Q .non H', rt := Q } (L2.start N vs) H) : FnOk P w K mg base (L2N.CX P w) (k + 1) f fd ps sp := by
  obtain ⟨oc, od, kV, doc, pm, an, cdv, ct, osl, rfl, lk, hcd⟩ := F.ex
  exact fn_of lk hcd S len fun A outer s H vs Q E hr hsp => hbody cdv A outer s H vs Q E hr hsp
theorem kit_own {K : PySem.W.Frag} {D C : Addr} {b : Bool} (h0 : PySem.W.subIn K (.ref D) (.ref D) = some true) (hi : PySem.W.isClsIn K C = true) (ht : PySem.W.typeIn K (.ref C) = some (.type "type")) (hs : PySem.W.subIn K (.ref D) (.ref C) = some b) : PySem.W.kitOne K (.ref D) (.ref C) = some b := by
  unfold PySem.W.isClsIn at hi
  unfold PySem.W.kitOne
  by_cases e : D = C
  · subst e
    rw [h0] at hs
    rw [if_pos (beq_self_eq_true _), hs]
  · rw [if_neg (by simp [e])]
    simp [PySem.W.kitCls, hi, ht, hs]
theorem kit_ve {K : PySem.W.Frag} {D : Addr} (h : PySem.W.subIn K (.ref D) (.type "ValueError") = some true) : PySem.W.kitOne K (.ref D) (.type "ValueError") = some true := by
  unfold PySem.W.kitOne
  rw [if_neg (by simp)]
  unfold PySem.W.kitCls
  show (if PySem.W.kitMeta "ValueError" = true then _ else _) = _
  rw [if_pos (by decide +kernel)]
  exact h
theorem exm_sub {K : PySem.W.Frag} {D C : Addr} (h1 : PySem.W.subIn K (.ref C) (.type "BaseException") = some true) (hi : PySem.W.isClsIn K C = true) (ht : PySem.W.typeIn K (.ref C) = some (.type "type")) (hs : PySem.W.subIn K (.ref D) (.ref C) = some true) : PySem.W.exmOne K (.ref D) (.ref C) = some true := by
  unfold PySem.W.isClsIn at hi
  simp [PySem.W.exmOne, PySem.W.kitCls, h1, hi, ht, hs]
end Fp

set_option Elab.async false
set_option linter.all false
set_option maxRecDepth 100000
set_option maxHeartbeats 4000000
/-! words by lengths: the words told by numbers are the words told by bits. -/
namespace Fp
open PySem PyProof.Rows
theorem bits_inj : ∀ {u v : List Nat}, Bits u → Bits v → u.length = v.length → bitsVal u = bitsVal v → u = v
  | [], [], _, _, _, _ => rfl
  | [], _ :: _, _, _, h, _ => nomatch h
  | _ :: _, [], _, _, h, _ => nomatch h
  | c :: r, d :: t, hu, hv, hl, h => by
    have hl : r.length = t.length := Nat.succ.inj hl
    rw [val_cons, val_cons, hl] at h
    have l1 := val_lt r
    have l2 := val_lt t
    rw [hl] at l1
    have hc := hu c (List.mem_cons_self ..)
    have hd := hv d (List.mem_cons_self ..)
    have key : c = d ∧ bitsVal r = bitsVal t := by
      rcases hc with rfl | rfl <;> rcases hd with rfl | rfl
      · simp at h
        exact ⟨rfl, h⟩
      · simp at h
        omega
      · simp at h
        omega
      · simp at h
        exact ⟨rfl, h⟩
    rw [key.1, bits_inj (fun x hx => hu x (List.mem_cons_of_mem _ hx)) (fun x hx => hv x (List.mem_cons_of_mem _ hx)) hl key.2]
theorem bitsOf_spec : ∀ (k n : Nat) (acc : List Nat), Bits acc → Bits (bitsOf k n acc) ∧ (bitsOf k n acc).length = k + acc.length ∧ bitsVal (bitsOf k n acc) = n % 2 ^ k * 2 ^ acc.length + bitsVal acc
  | 0, n, acc, h => ⟨h, (Nat.zero_add _).symm, by
    show bitsVal acc = n % 1 * 2 ^ acc.length + bitsVal acc
    rw [Nat.mod_one, Nat.zero_mul, Nat.zero_add]⟩
  | k + 1, n, acc, h => by
    have hb : Bits ((48 + n % 2) :: acc) := fun c hc => by
      rcases List.mem_cons.mp hc with z | z
      · omega
      · exact h c z
    obtain ⟨h1, h2, h3⟩ := bitsOf_spec k (n / 2) ((48 + n % 2) :: acc) hb
    refine ⟨h1, by show (bitsOf k (n / 2) ((48 + n % 2) :: acc)).length = _; rw [h2, List.length_cons]; omega, ?_⟩
    show bitsVal (bitsOf k (n / 2) ((48 + n % 2) :: acc)) = _
    rw [h3, val_cons, List.length_cons]
    have e : n % 2 ^ (k + 1) = n % 2 + 2 * (n / 2 % 2 ^ k) := by
      rw [Nat.pow_succ, Nat.mul_comm, Nat.mod_mul]
    have e2 : (if 48 + n % 2 = 49 then 1 else 0) = n % 2 := by
      have : n % 2 = 0 ∨ n % 2 = 1 := by omega
      rcases this with z | z <;> rw [z] <;> rfl
    rw [e, e2, Nat.pow_succ, Nat.add_mul, ← Nat.add_assoc]
    congr 1
    rw [Nat.add_comm, Nat.mul_comm (2 ^ acc.length) 2, ← Nat.mul_assoc, Nat.mul_comm (n / 2 % 2 ^ k) 2]
theorem lawLess_eq {w : List Nat} (hb : Bits w) : lawLess w = if (lastOne w).isSome then some (lessW w) else none := by
  unfold lawLess
  cases e : lastOne w with
  | none =>
    rcases lastOne_spec w with ⟨_, h⟩ | ⟨i, e2, _⟩
    · rw [if_pos (val_none h)]
      rfl
    · rw [e] at e2
      cases e2
  | some i =>
    obtain ⟨c1, c2, c3⟩ := less_val hb e
    rw [if_neg (by omega)]
    show some _ = some _
    congr 1
    obtain ⟨d1, d2, d3⟩ := bitsOf_spec w.length (bitsVal w - 1) [] (fun c hc => nomatch hc)
    refine bits_inj d1 c1 (by rw [d2, c2]; rfl) ?_
    have lt := val_lt w
    rw [d3, Nat.mod_eq_of_lt (by omega)]
    show (bitsVal w - 1) * 1 + 0 = _
    omega
/-- the two states agree -/
def RelS (sl : Option (List (List Nat) × List Nat)) (st : List (List Nat) × Option (List Nat)) : Prop := ∃ l, sl = some (st.1, l) ∧ ((st.2 = none ∧ l = []) ∨ (st.2 = some l ∧ l ≠ [] ∧ Bits l))
def stepL2 (ns : List Nat) (sl : Option (List (List Nat) × List Nat)) (p : Nat) : Option (List (List Nat) × List Nat) := stepL ns (ns.getD p 0) sl p
theorem rel_step {ns : List Nat} {sl : Option (List (List Nat) × List Nat)} {st : List (List Nat) × Option (List Nat)} {p : Nat} (h : RelS sl st) (h1 : 1 ≤ ns.getD p 0) :
    ((∀ w, st.2 = some w → (lastOne w).isSome = true) → RelS (stepL2 ns sl p) (stepW ns st p)) ∧ (∀ w, st.2 = some w → (lastOne w).isSome = false → stepL2 ns sl p = none) := by
  obtain ⟨l, rfl, ⟨h2, rfl⟩ | ⟨h2, ne, hb⟩⟩ := h
  · refine ⟨fun _ => ?_, fun w z => by rw [h2] at z; cases z⟩
    refine ⟨[] ++ List.replicate (ns.getD p 0 - 0) 49, ?_, .inr ⟨?_, ?_, ?_⟩⟩
    · rw [show stepW ns st p = (st.1.set p ([] ++ List.replicate (ns.getD p 0 - 0) 49), some ([] ++ List.replicate (ns.getD p 0 - 0) 49)) by unfold stepW; rw [h2]; rfl]
      exact stepL_yes rfl (if_pos rfl)
    · unfold stepW
      rw [h2]
      rfl
    · intro z
      have := congrArg List.length z
      rw [List.nil_append, List.length_replicate] at this
      have : ns.getD p 0 - 0 = 0 := this
      omega
    · intro c hc
      rw [List.nil_append] at hc
      exact .inr (List.mem_replicate.mp hc).2
  · have le := lawLess_eq hb
    refine ⟨fun ok => ?_, fun w z bad => ?_⟩
    · have ok := ok l h2
      rw [if_pos ok] at le
      obtain ⟨i, hi⟩ := Option.isSome_iff_exists.mp ok
      obtain ⟨c1, c2, c3⟩ := less_val hb hi
      refine ⟨lessW l ++ List.replicate (ns.getD p 0 - (lessW l).length) 49, ?_, .inr ⟨?_, ?_, ?_⟩⟩
      · rw [show stepW ns st p = (st.1.set p (lessW l ++ List.replicate (ns.getD p 0 - (lessW l).length) 49), some (lessW l ++ List.replicate (ns.getD p 0 - (lessW l).length) 49)) by unfold stepW; rw [h2]]
        exact stepL_yes rfl (by rw [if_neg ne]; exact le)
      · unfold stepW
        rw [h2]
      · intro z
        have := congrArg List.length z
        rw [List.length_append, c2] at this
        have l0 : 0 < l.length := List.length_pos_iff.mpr ne
        have : l.length + _ = 0 := this
        omega
      · intro c hc
        rcases List.mem_append.mp hc with z | z
        · exact c1 c z
        · exact .inr (List.mem_replicate.mp z).2
    · rw [h2] at z
      cases z
      rw [bad] at le
      exact stepL_bad rfl (by rw [if_neg ne]; exact le)
theorem rel_run {ns : List Nat} : ∀ (ord : List Nat) (sl : Option (List (List Nat) × List Nat)) (st : List (List Nat) × Option (List Nat)), RelS sl st → (∀ p ∈ ord, 1 ≤ ns.getD p 0) →
    (okW ns ord st = true → RelS (ord.foldl (stepL2 ns) sl) (ord.foldl (stepW ns) st)) ∧ (okW ns ord st = false → ord.foldl (stepL2 ns) sl = none)
  | [], sl, st, h, _ => ⟨fun _ => h, fun z => nomatch z⟩
  | p :: r, sl, st, h, h1 => by
    obtain ⟨s1, s2⟩ := rel_step (p := p) h (h1 p (List.mem_cons_self ..))
    have eo : okW ns (p :: r) st = ((match st.2 with | none => true | some w => (lastOne w).isSome) && okW ns r (stepW ns st p)) := rfl
    have none_run : ∀ l : List Nat, l.foldl (stepL2 ns) none = none := fun l => foldl_keep _ (fun _ => rfl) l
    cases e : st.2 with
    | none =>
      rw [e] at eo
      have eo : okW ns (p :: r) st = okW ns r (stepW ns st p) := eo
      rw [eo]
      exact rel_run r _ _ (s1 (fun w z => by rw [e] at z; cases z)) (fun q hq => h1 q (List.mem_cons_of_mem _ hq))
    | some w =>
      rw [e] at eo
      cases ew : (lastOne w).isSome with
      | true =>
        have eo : okW ns (p :: r) st = ((lastOne w).isSome && okW ns r (stepW ns st p)) := eo
        rw [ew, Bool.true_and] at eo
        rw [eo]
        exact rel_run r _ _ (s1 (fun u z => by rw [e] at z; cases z; exact ew)) (fun q hq => h1 q (List.mem_cons_of_mem _ hq))
      | false =>
        have eo : okW ns (p :: r) st = ((lastOne w).isSome && okW ns r (stepW ns st p)) := eo
        rw [ew, Bool.false_and] at eo
        rw [eo]
        refine ⟨(fun z => nomatch z), fun _ => ?_⟩
        rw [List.foldl_cons, s2 w e ew]
        exact none_run r
theorem fold_filter {α : Type} (f g : α → Nat → α) (c : Nat → Bool) (h1 : ∀ a p, c p = true → f a p = g a p) (h2 : ∀ a p, c p = false → f a p = a) : ∀ (l : List Nat) (a : α), l.foldl f a = (l.filter c).foldl g a
  | [], _ => rfl
  | p :: r, a => by
    rw [List.foldl_cons, fold_filter f g c h1 h2 r]
    cases e : c p with
    | true => rw [h1 a p e, List.filter_cons_of_pos e, List.foldl_cons]
    | false => rw [h2 a p e, List.filter_cons_of_neg (by rw [e]; exact Bool.false_ne_true)]
theorem fold_flat {α : Type} (g : α → Nat → α) (F : Nat → List Nat) : ∀ (l : List Nat) (a : α), l.foldl (fun a v => (F v).foldl g a) a = (l.flatMap F).foldl g a
  | [], _ => rfl
  | v :: r, a => by
    rw [List.foldl_cons, List.flatMap_cons, List.foldl_append]
    exact fold_flat g F r _
theorem lawW_buckets {ns : List Nat} (h1 : ∀ n ∈ ns, 1 ≤ n) : lawW ns = (buckets (fun i => (iv ns).getD i 0) ns.length).foldl (stepL2 ns) (some (List.replicate ns.length [], [])) := by
  have er : ∀ sl len, rowL ns sl len = ((List.range ns.length).filter fun i => decide ((iv ns).getD i 0 = ((len : Nat) : Int))).foldl (stepL2 ns) sl := fun sl len => by
    unfold rowL
    refine fold_filter _ _ _ (fun a p e => ?_) (fun a p e => ?_) _ _
    · have e := of_decide_eq_true e
      rw [iv_getD] at e
      unfold stepL2
      rw [show ns.getD p 0 = len by omega]
    · have e := of_decide_eq_false e
      rw [iv_getD] at e
      cases a with
      | none => rfl
      | some fl => exact stepL_no (f := fl.1) (l := fl.2) (by omega)
  have e0 : ((List.range ns.length).filter fun i => decide ((iv ns).getD i 0 = ((0 : Nat) : Int))) = [] := by
    apply List.filter_eq_nil_iff.mpr
    intro p hp z
    have z := of_decide_eq_true z
    rw [iv_getD, List.getD_eq_getElem?_getD, List.getElem?_eq_getElem (List.mem_range.mp hp)] at z
    have := h1 _ (List.getElem_mem (List.mem_range.mp hp))
    have z : ((ns[p]'(List.mem_range.mp hp) : Nat) : Int) = ((0 : Nat) : Int) := z
    omega
  unfold buckets lawW
  rw [show List.range 13 = 0 :: (List.range 12).map (· + 1) from rfl, List.flatMap_cons, e0, List.nil_append, ← fold_flat (stepL2 ns) (fun v => (List.range ns.length).filter fun i => decide ((iv ns).getD i 0 = ((v : Nat) : Int)))]
  congr 1
  funext sl len
  exact er sl len
/-- what the law's words are -/
theorem lawW_words {ns : List Nat} (hn : ∀ n ∈ ns, 1 ≤ n ∧ n ≤ 12) :
    (okW ns (buckets (fun i => (iv ns).getD i 0) ns.length) (startW ns) = true → ∃ l, lawW ns = some (wordsOf ns, l)) ∧ (okW ns (buckets (fun i => (iv ns).getD i 0) ns.length) (startW ns) = false → lawW ns = none) := by
  rw [lawW_buckets fun n h => (hn n h).1]
  have main := rel_run (ns := ns) (buckets (fun i => (iv ns).getD i 0) ns.length) (some (List.replicate ns.length [], [])) (startW ns) ⟨[], rfl, .inl ⟨rfl, rfl⟩⟩ (fun p hp => by
    have hp := mem_buckets hp
    rw [List.getD_eq_getElem?_getD, List.getElem?_eq_getElem hp]
    exact (hn _ (List.getElem_mem hp)).1)
  refine ⟨fun z => ?_, main.2⟩
  obtain ⟨l, e, _⟩ := main.1 z
  exact ⟨l, e⟩
end Fp

set_option Elab.async false
set_option linter.all false
set_option maxRecDepth 100000
set_option maxHeartbeats 4000000
namespace K05
open PySem PySem.Spec PyProof.Rows L2 Fp L2H
def topS (i : Nat) : Stmt := PySem.Challenge.pw_farpage_k05_words_by_lengths.main.body.getD i (.Pass ⟨0, 0, 0, 0⟩)
abbrev s_words_by : Stmt := topS 12
abbrev N_words_by : List Str := ["lengths", "words", "ahead", "place", "begin"]
abbrev P_words_by : List Str := ["lengths"]
theorem sc_words_by : FnScope N_words_by P_words_by (defScope s_words_by) := ⟨rfl, rfl, rfl, by decide +kernel, rfl, by decide +kernel, by decide +kernel⟩
abbrev s_making_order : Stmt := topS 13
abbrev N_making_order : List Str := ["lengths"]
abbrev P_making_order : List Str := ["lengths"]
theorem sc_making_order : FnScope N_making_order P_making_order (defScope s_making_order) := ⟨rfl, rfl, rfl, by decide +kernel, rfl, by decide +kernel, by decide +kernel⟩
abbrev s_one_less : Stmt := topS 14
abbrev N_one_less : List Str := ["word", "last"]
abbrev P_one_less : List Str := ["word"]
theorem sc_one_less : FnScope N_one_less P_one_less (defScope s_one_less) := ⟨rfl, rfl, rfl, by decide +kernel, rfl, by decide +kernel, by decide +kernel⟩
abbrev s_bag : Stmt := topS 16
abbrev N_bag : List Str := ["_law_script", "_law_at", "_law_cell", "_law_great"]
abbrev P_bag : List Str := ["_law_script", "_law_at"]
theorem sc_bag : FnScope N_bag P_bag (defScope s_bag) := ⟨rfl, rfl, rfl, by decide +kernel, rfl, by decide +kernel, by decide +kernel⟩
abbrev s_draw : Stmt := topS 17
abbrev N_draw : List Str := ["_law_bag_here", "_law_many", "_law_digit"]
abbrev P_draw : List Str := ["_law_bag_here", "_law_many"]
theorem sc_draw : FnScope N_draw P_draw (defScope s_draw) := ⟨rfl, rfl, rfl, by decide +kernel, rfl, by decide +kernel, by decide +kernel⟩
abbrev s_lengths : Stmt := topS 18
abbrev N_lengths : List Str := ["_law_bag_here", "_law_many", "_law_least", "_law_alone", "_law_found", "_law_k", "_law_length"]
abbrev P_lengths : List Str := ["_law_bag_here"]
theorem sc_lengths : FnScope N_lengths P_lengths (defScope s_lengths) := ⟨rfl, rfl, rfl, by decide +kernel, rfl, by decide +kernel, by decide +kernel⟩
abbrev s_less : Stmt := topS 19
abbrev N_less : List Str := ["_law_word", "_law_number", "_law_bit", "_law_found"]
abbrev P_less : List Str := ["_law_word"]
theorem sc_less : FnScope N_less P_less (defScope s_less) := ⟨rfl, rfl, rfl, by decide +kernel, rfl, by decide +kernel, by decide +kernel⟩
abbrev s_words : Stmt := topS 20
abbrev N_words : List Str := ["_law_lengths_here", "_law_found", "_law_last", "_law_length", "_law_place"]
abbrev P_words : List Str := ["_law_lengths_here"]
theorem sc_words : FnScope N_words P_words (defScope s_words) := ⟨rfl, rfl, rfl, by decide +kernel, rfl, by decide +kernel, by decide +kernel⟩
abbrev s_only : Stmt := topS 21
abbrev N_only : List Str := ["_law_e", "_law_due", "_law_kinds", "_law_k"]
abbrev P_only : List Str := ["_law_e", "_law_due"]
theorem sc_only : FnScope N_only P_only (defScope s_only) := ⟨rfl, rfl, rfl, by decide +kernel, rfl, by decide +kernel, by decide +kernel⟩
abbrev s_good : Stmt := topS 22
abbrev N_good : List Str := ["_law_lengths_here", "_law_handed", "_law_due", "_law_found", "_law_e"]
abbrev P_good : List Str := ["_law_lengths_here"]
theorem sc_good : FnScope N_good P_good (defScope s_good) := ⟨rfl, rfl, rfl, by decide +kernel, rfl, by decide +kernel, by decide +kernel⟩
abbrev s_law : Stmt := topS 23
abbrev N_law : List Str := ["_law_script", "_law_k", "_law_bag_here", "_law_lengths_here"]
abbrev P_law : List Str := ["_law_script"]
theorem sc_law : FnScope N_law P_law (defScope s_law) := ⟨rfl, rfl, rfl, by decide +kernel, rfl, by decide +kernel, by decide +kernel⟩
structure Ad where
  a_words_by : Addr
  d_words_by : FuncData
  a_making_order : Addr
  d_making_order : FuncData
  a_one_less : Addr
  d_one_less : FuncData
  a_bag : Addr
  d_bag : FuncData
  a_draw : Addr
  d_draw : FuncData
  a_lengths : Addr
  d_lengths : FuncData
  a_less : Addr
  d_less : FuncData
  a_words : Addr
  d_words : FuncData
  a_only : Addr
  d_only : FuncData
  a_good : Addr
  d_good : FuncData
  a_law : Addr
  d_law : FuncData
  k_making_order : Addr
  p_making_order : Addr
  x_FarError : Addr
  x_NoPage : Addr
  x_NoWords : Addr
  x_NoTelling : Addr
  x_NoFrame : Addr
  x_NoPiece : Addr
  x_NoName : Addr
  x_NoEnds : Addr
  x_NoCall : Addr
  x_NoSaying : Addr
structure Txt (w : World) (K : PySem.W.Frag) (mg : Str → Option Value) (base : Heap) (A : Ad) : Prop where
  F_words_by : Fun K "words_by" "words_by" s_words_by A.a_words_by A.d_words_by
  b_words_by : Binds K A.d_words_by P_words_by []
  g_words_by : mg "words_by" = some (.ref A.a_words_by)
  F_making_order : Fun K "making_order" "making_order" s_making_order A.a_making_order A.d_making_order
  b_making_order : Binds K A.d_making_order P_making_order []
  g_making_order : mg "making_order" = some (.ref A.a_making_order)
  F_one_less : Fun K "one_less" "one_less" s_one_less A.a_one_less A.d_one_less
  b_one_less : Binds K A.d_one_less P_one_less []
  g_one_less : mg "one_less" = some (.ref A.a_one_less)
  F_bag : Fun K "_law_bag" "_law_bag" s_bag A.a_bag A.d_bag
  b_bag : Binds K A.d_bag P_bag []
  g_bag : mg "_law_bag" = some (.ref A.a_bag)
  F_draw : Fun K "_law_draw" "_law_draw" s_draw A.a_draw A.d_draw
  b_draw : Binds K A.d_draw P_draw []
  g_draw : mg "_law_draw" = some (.ref A.a_draw)
  F_lengths : Fun K "_law_lengths" "_law_lengths" s_lengths A.a_lengths A.d_lengths
  b_lengths : Binds K A.d_lengths P_lengths []
  g_lengths : mg "_law_lengths" = some (.ref A.a_lengths)
  F_less : Fun K "_law_less" "_law_less" s_less A.a_less A.d_less
  b_less : Binds K A.d_less P_less []
  g_less : mg "_law_less" = some (.ref A.a_less)
  F_words : Fun K "_law_words" "_law_words" s_words A.a_words A.d_words
  b_words : Binds K A.d_words P_words []
  g_words : mg "_law_words" = some (.ref A.a_words)
  F_only : Fun K "_law_only" "_law_only" s_only A.a_only A.d_only
  b_only : Binds K A.d_only P_only []
  g_only : mg "_law_only" = some (.ref A.a_only)
  F_good : Fun K "_law_good" "_law_good" s_good A.a_good A.d_good
  b_good : Binds K A.d_good P_good []
  g_good : mg "_law_good" = some (.ref A.a_good)
  F_law : Fun K "law" "law" s_law A.a_law A.d_law
  g_law : mg "law" = some (.ref A.a_law)
  TB_making_order : LamX.TabB base mg A.k_making_order A.p_making_order
  L_making_order : ∃ (oc : Value) (od : Option Addr) (kV doc pm : Value) (an : Option Addr) (ct : Value) (osl : Array (Option Value)), K.lookup A.a_making_order = some ⟨oc, od, .func (PySem.W.fnOf "making_order" "making_order" (defArgs s_making_order) (defBody s_making_order) (defScope s_making_order) .none kV doc pm an (.ref A.k_making_order) ct), osl⟩ ∧ PySem.W.codeIn K (.ref A.k_making_order) "making_order" = true
  xg_FarError : mg "FarError" = some (.ref A.x_FarError)
  ki_FarError : PySem.W.kitOne K (.ref A.x_NoWords) (.ref A.x_FarError) = some true
  xg_NoPage : mg "NoPage" = some (.ref A.x_NoPage)
  ki_NoPage : PySem.W.kitOne K (.ref A.x_NoWords) (.ref A.x_NoPage) = some false
  xg_NoWords : mg "NoWords" = some (.ref A.x_NoWords)
  ki_NoWords : PySem.W.kitOne K (.ref A.x_NoWords) (.ref A.x_NoWords) = some true
  xg_NoTelling : mg "NoTelling" = some (.ref A.x_NoTelling)
  ki_NoTelling : PySem.W.kitOne K (.ref A.x_NoWords) (.ref A.x_NoTelling) = some false
  xg_NoFrame : mg "NoFrame" = some (.ref A.x_NoFrame)
  ki_NoFrame : PySem.W.kitOne K (.ref A.x_NoWords) (.ref A.x_NoFrame) = some false
  xg_NoPiece : mg "NoPiece" = some (.ref A.x_NoPiece)
  ki_NoPiece : PySem.W.kitOne K (.ref A.x_NoWords) (.ref A.x_NoPiece) = some false
  xg_NoName : mg "NoName" = some (.ref A.x_NoName)
  ki_NoName : PySem.W.kitOne K (.ref A.x_NoWords) (.ref A.x_NoName) = some false
  xg_NoEnds : mg "NoEnds" = some (.ref A.x_NoEnds)
  ki_NoEnds : PySem.W.kitOne K (.ref A.x_NoWords) (.ref A.x_NoEnds) = some false
  xg_NoCall : mg "NoCall" = some (.ref A.x_NoCall)
  ki_NoCall : PySem.W.kitOne K (.ref A.x_NoWords) (.ref A.x_NoCall) = some false
  xg_NoSaying : mg "NoSaying" = some (.ref A.x_NoSaying)
  ki_NoSaying : PySem.W.kitOne K (.ref A.x_NoWords) (.ref A.x_NoSaying) = some false
  xq_NoWords : PySem.W.excIn K A.x_NoWords veB "ValueError.__new__" = true
  xk_NoWords : PySem.W.keepIn K (.ref A.x_NoWords) = true
  xs_NoWords : PySem.W.subIn K (.ref A.x_NoWords) (.type "BaseException") = some true
  xt_NoWords : PySem.W.typeIn K (.ref A.x_NoWords) = some (.type "type")
  xe : ExcC K A.x_NoWords
  kv : PySem.W.kitOne K (.ref A.x_NoWords) (.type "ValueError") = some true
  xm_FarError : PySem.W.exmOne K (.ref A.x_NoWords) (.ref A.x_FarError) = some true
  z_ValueError : mg "ValueError" = none
  z_abs : mg "abs" = none
  z_int : mg "int" = none
  z_isinstance : mg "isinstance" = none
  z_len : mg "len" = none
  z_list : mg "list" = none
  z_max : mg "max" = none
  z_min : mg "min" = none
  z_range : mg "range" = none
  z_sorted : mg "sorted" = none
section
variable {P : Program} {w : World} {K : PySem.W.Frag} {mg : Str → Option Value} {base : Heap}
def spBag (K : PySem.W.Frag) : Sp := fun vs H Q _ => ∃ (a : Addr) (ns : List Int) (k : Int), vs = [.ref a, .int k] ∧ SqL K H a (ns.map V.int) ∧ 0 ≤ k ∧ k ≤ 1000 ∧
  ∀ p g s, H p = none → 0 ≤ g → 0 ≤ s → s < 1000000000000 → Q (.ref p) (upd H p (.lst [.int g, .int s]))
theorem ok_bag {A : Ad} (T : Txt w K mg base A) : FnOk P w K mg base CX0 1 A.a_bag A.d_bag P_bag (spBag K) := by
  refine T.F_bag.ok sc_bag (fun vs H Q E h => ?_) (fun cdv Ar outer s H vs Q E hr h => ?_)
  · obtain ⟨a, ns, k, rfl, _⟩ := h
    rfl
  · obtain ⟨a, ns, k, rfl, hS, k0, k1, q⟩ := h
    refine ⟨_, (pss_cons (ps_set (i := 2) sc_bag.nd rfl (Or.inl rfl) pe_int)
      (pss_cons (ps_if (pt_cmpR op_lt (pv 1) (pe_callB (r := fun xs H Q => ∃ p ys, xs = [.ref p] ∧ (SqL K H p ys ∨ SqT K H p ys) ∧ Q (.int ys.length) H) call_len_seq (by rfl) T.z_len PySem.boot_len (pa_cons (pv 0) pa_nil)) (nomark _))
      (pss_one (ps_set (i := 2) sc_bag.nd rfl (Or.inl rfl) (pe_ix (r := rIxL K) ix_list (pv 0) (pv 1) (fun _ _ => rfl)))) pss_nil)
      (pss_cons (ps_set (i := 3) sc_bag.nd rfl (Or.inl rfl) pe_int)
      (pss_cons (ps_if (pt_cmpR op_ge (pe_callB call_abs (by rfl) T.z_abs (by decide +kernel) (pa_cons (pv 2) pa_nil)) (pe_op op_pow pe_int pe_int) (nomark _))
      (pss_one (ps_set (i := 3) sc_bag.nd rfl (Or.inl rfl) (pe_callB call_abs (by rfl) T.z_abs (by decide +kernel) (pa_cons (pv 2) pa_nil)))) pss_nil)
      (pss_one (ps_ret (pe_lst (pa_cons (pv 3) (pa_cons (pe_op op_add (pe_op op_add (pe_op op_mul (pe_op op_mod (pv 2) pe_int) pe_int) (pe_op op_mul pe_int (pv 1))) pe_int) pa_nil))))))))), ?_⟩
    have fin : ∀ (c g : Int), 0 ≤ g → tSeq (tIfS (tTest (tOp (rI0 fun i j => .bl (decide (j ≤ i))) (tCB (fun xs H Q => ∃ i, xs = [.int i] ∧ Q (.int (if i < 0 then -i else i)) H) (tCons (tVar 2) tNil)) (tOp (rI CPow fun i j => .int (i ^ j.toNat)) (tC (.int 10)) (tC (.int 18))))) (tAsg (tCB (fun xs H Q => ∃ i, xs = [.int i] ∧ Q (.int (if i < 0 then -i else i)) H) (tCons (tVar 2) tNil)) (gName 3)) tNext)
        (tRet (tLst (tCons (tVar 3) (tCons (tOp (rI0 fun i j => .int (i + j)) (tOp (rI0 fun i j => .int (i + j)) (tOp (rI CMul fun i j => .int (i * j)) (tOp (rI (fun _ j => 0 < j) fun i j => .int (i % j)) (tVar 2) (tC (.int 1000000007))) (tC (.int 7))) (tOp (rI CMul fun i j => .int (i * j)) (tC (.int 1013)) (tVar 1))) (tC (.int 5))) tNil)))) { nx := fun _ H' => Q .non H', rt := Q } [some (.ref a), some (.int k), some (.int c), some (.int g)] H := by
      intro c g g0
      have fin2 : ∀ (g : Int), 0 ≤ g → tRet (tLst (tCons (tVar 3) (tCons (tOp (rI0 fun i j => .int (i + j)) (tOp (rI0 fun i j => .int (i + j)) (tOp (rI CMul fun i j => .int (i * j)) (tOp (rI (fun _ j => 0 < j) fun i j => .int (i % j)) (tVar 2) (tC (.int 1000000007))) (tC (.int 7))) (tOp (rI CMul fun i j => .int (i * j)) (tC (.int 1013)) (tVar 1))) (tC (.int 5))) tNil))) { nx := fun _ H' => Q .non H', rt := Q } [some (.ref a), some (.int k), some (.int c), some (.int g)] H := by
        intro g g0
        have m0 := Int.emod_nonneg c (show (1000000007 : Int) ≠ 0 by decide)
        have m1 := Int.emod_lt_of_pos c (show (0 : Int) < 1000000007 by decide)
        refine ⟨_, rfl, _, rfl, _, _, rfl, rfl, (by show (0 : Int) < 1000000007; decide), _, _, rfl, rfl, .inr ⟨by decide, by decide⟩, _, rfl, _, _, rfl, rfl, .inl ⟨by decide, by decide⟩, _, _, rfl, rfl, _, _, rfl, rfl, (by show 2 ≤ sizeLine; decide), fun p hp => ?_⟩
        exact q p g _ hp g0 (by omega) (by omega)
      refine ⟨_, rfl, _, rfl, _, _, rfl, rfl, ⟨by decide, by decide, by decide⟩, _, _, rfl, rfl, _, rfl, ite2 (fun e => ?_) (fun e => ?_)⟩
      · refine ⟨_, rfl, _, rfl, fin2 _ ?_⟩
        split <;> omega
      · exact fin2 g g0
    refine ⟨_, rfl, _, rfl, _, _, rfl, .inl hS, _, _, rfl, rfl, _, rfl, ite2 (fun e => ?_) (fun e => ?_)⟩
    · have lt : k < ((ns.map V.int).length : Int) := of_decide_eq_true e
      obtain ⟨j, rfl⟩ := Int.eq_ofNat_of_zero_le k0
      have hj : j < ns.length := by
        rw [List.length_map] at lt
        omega
      have g : (ns.map V.int)[j]? = some (.int ns[j]) := by
        rw [List.getElem?_map, List.getElem?_eq_getElem hj]
        rfl
      refine ⟨_, rfl, _, rfl, _, _, _, _, rfl, rfl, hS, atI_nat g, ?_⟩
      exact fin _ 0 (Int.le_refl _)
    · exact fin 0 0 (Int.le_refl _)
def spDraw : Sp := fun vs H Q _ => ∃ (b : Addr) (m : Int), vs = [.ref b, .int m] ∧ BagAt H b ∧ 0 < m ∧ m < 1000000 ∧
  ∀ (d : Int) (H' : Hp), 0 ≤ d → d < m → Bx b H H' → Q (.int d) H'
theorem ok_draw {A : Ad} (T : Txt w K mg base A) : FnOk P w K mg base CX0 1 A.a_draw A.d_draw P_draw spDraw := by
  refine T.F_draw.ok sc_draw (fun vs H Q E h => ?_) (fun cdv Ar outer s H vs Q E hr h => ?_)
  · obtain ⟨b, m, rfl, _⟩ := h
    rfl
  · obtain ⟨b, m, rfl, ⟨g, s, hb, g0, s0, s1⟩, m0, m1, q⟩ := h
    refine ⟨_, (pss_cons (ps_if (pt_cmpR op_gt (pe_ix (r := rIxL K) ix_list (pv 0) pe_int (fun _ _ => rfl)) pe_int (nomark _))
      (pss_cons (ps_set (i := 2) sc_draw.nd rfl (Or.inl rfl) (pe_op op_mod (pe_ix (r := rIxL K) ix_list (pv 0) pe_int (fun _ _ => rfl)) (pv 1)))
      (pss_cons (ps_asg (pe_op op_fdiv (pe_ix (r := rIxL K) ix_list (pv 0) pe_int (fun _ _ => rfl)) (pv 1)) (pg_sub (pv 0) pe_int set_list))
      (pss_one (ps_ret (pv 2))))) pss_nil)
      (pss_cons (ps_asg (pe_op op_mod (pe_op op_add (pe_op op_mul (pe_ix (r := rIxL K) ix_list (pv 0) pe_int (fun _ _ => rfl)) pe_int) pe_int) pe_int) (pg_sub (pv 0) pe_int set_list))
      (pss_one (ps_ret (pe_op op_mod (pe_op op_mod (pe_op op_pow (pe_op op_fdiv (pe_ix (r := rIxL K) ix_list (pv 0) pe_int (fun _ _ => rfl)) pe_int) pe_int) pe_int) (pv 1)))))), ?_⟩
    refine ⟨_, rfl, _, _, _, _, rfl, rfl, SqL.of hb, atI_nat (j := 0) rfl, _, _, rfl, rfl, _, rfl, ite2 (fun e => ?_) (fun e => ?_)⟩
    · refine ⟨_, rfl, _, _, _, _, rfl, rfl, SqL.of hb, atI_nat (j := 0) rfl, _, rfl, _, _, rfl, rfl, m0, ?_⟩
      refine ⟨_, rfl, _, _, _, _, rfl, rfl, SqL.of hb, atI_nat (j := 0) rfl, _, rfl, _, _, rfl, rfl, ⟨m0, by omega⟩, _, rfl, _, _, _, _, rfl, rfl, hb, Evl.ixN_nat (j := 0) (by show 0 < 2; decide), ?_⟩
      refine ⟨_, rfl, ?_⟩
      exact q _ _ (Int.emod_nonneg _ (by omega)) (Int.emod_lt_of_pos _ m0) (Bx.drawn (Int.ediv_nonneg g0 (by omega)) s0 s1)
    · have t0 := Int.emod_nonneg (s * 69621 + 1234567) (show (2147483647 : Int) ≠ 0 by decide)
      have t1 := Int.emod_lt_of_pos (s * 69621 + 1234567) (show (0 : Int) < 2147483647 by decide)
      refine ⟨_, rfl, _, _, _, _, rfl, rfl, SqL.of hb, atI_nat (j := 1) rfl, _, _, rfl, rfl, .inr ⟨by decide, by decide⟩, _, _, rfl, rfl, _, _, rfl, rfl, (by show (0 : Int) < 2147483647; decide), _, rfl, _, _, _, _, rfl, rfl, hb, Evl.ixN_nat (j := 1) (by show 1 < 2; decide), ?_⟩
      refine ⟨_, rfl, _, _, _, _, rfl, rfl, SqL.of upd_same, atI_nat (j := 1) rfl, _, _, rfl, rfl, ⟨by decide, by decide⟩, _, _, rfl, rfl, ⟨by decide, by decide, ?_⟩, _, _, rfl, rfl, (by show (0 : Int) < 998244353; decide), _, rfl, _, _, rfl, rfl, m0, ?_⟩
      · omega
      · exact q _ _ (Int.emod_nonneg _ (by omega)) (Int.emod_lt_of_pos _ m0) (Bx.drawn g0 t0 (by omega))

/-! ### words by lengths -/
abbrev TT (p : Addr) : List (Addr × Str) := [(p, (("making_order" : Str) ++ ".<locals>.") ++ "<lambda>")]
theorem extN_of {H H' : Hp} (e : Same H H') : LamX.ExtN H H' := fun b o h _ => e b o h
theorem tabs_same {T : List (Addr × Str)} {H H' : Hp} (h : LamX.Tabs T H) (e : Same H H') : LamX.Tabs T H' := h.ext e
def spOrder (p : Addr) : Sp := fun vs H Q _ => ∃ (a : Addr) (ns : List Int), vs = [.ref a] ∧ LamX.Tabs (TT p) H ∧ H a = some (.lst (ns.map V.int)) ∧ ns.length ≤ 1000 ∧
  ∀ q H', LamX.ExtN H H' → LamX.Tabs (TT p) H' → H' q = none → Q (.ref q) (upd H' q (.lst ((orderOf ns).map fun (i : Nat) => V.int (i : Int))))
theorem ok_making_order {A : Ad} (T : Txt w K mg base A) : FnOk P w K mg base CX0 1 A.a_making_order A.d_making_order P_making_order (spOrder A.p_making_order) := by
  obtain ⟨oc, od, kV, doc, pm, an, ct, osl, lk, hcd⟩ := T.L_making_order
  obtain ⟨oc2, od2, kV2, doc2, pm2, an2, cdv2, ct2, osl2, efd, lk2, hcd2⟩ := T.F_making_order.ex
  have e2 := lk.symm.trans lk2
  have efd2 : PySem.W.fnOf "making_order" "making_order" (defArgs s_making_order) (defBody s_making_order) (defScope s_making_order) .none kV doc pm an (.ref A.k_making_order) ct = A.d_making_order := by
    injection e2 with e2
    injection e2 with _ _ e2 _
    injection e2
  rw [← efd2]
  refine fn_of lk hcd sc_making_order (fun vs H Q E h => ?_) (fun Ar outer s H vs Q E hr h => ?_)
  · obtain ⟨a, ns, rfl, _⟩ := h
    rfl
  · obtain ⟨a, ns, rfl, hT, ha, hl, q⟩ := h
    refine ⟨_, pss_one (ps_ret (pe_sortLam (T := TT A.p_making_order) (iL := 0) (by rfl) T.z_sorted (pa_cons (pe_callTy cr_range1 (by rfl) T.z_range (by decide +kernel) (pa_cons (pe_callB (r := fun xs H Q => ∃ p ys, xs = [.ref p] ∧ (SqL K H p ys ∨ SqT K H p ys) ∧ Q (.int ys.length) H) call_len_seq (by rfl) T.z_len PySem.boot_len (pa_cons (pv 0) pa_nil)) pa_nil)) pa_nil)
      T.TB_making_order rfl (List.mem_singleton.mpr rfl) (fun p hp _ => by rw [List.mem_singleton.mp hp]; rfl) hr rfl rfl rfl rfl rfl rfl rfl (by decide +kernel) rfl (fun _ _ _ _ _ _ => rfl))), ?_⟩
    refine ⟨_, rfl, a, _, rfl, .inl (SqL.of ha), _, rfl, fun r hr2 => ?_⟩
    have s1 : Same H (upd H r (.rng 0 ((ns.map V.int).length : Int))) := same_new hr2
    refine ⟨r, a, ns, rfl, by rw [upd_same, List.length_map], tabs_same hT s1, rfl, s1 _ _ ha, hl, fun p H2 eN T2 fr => ?_⟩
    exact q p H2 (fun b o hb n => eN b o (s1 _ _ hb) n) T2 fr
theorem cutS_to (l : List Nat) (b : Nat) (hb : b ≤ l.length) : cutS (sOf l) none (some (b : Int)) = sOf (l.take b) := by
  unfold cutS
  rw [HT.sIx_nat, sOf_len, sOf_list, Nat.min_eq_left hb, HT.sIx_none]
  show sOf ((l.drop 0).take (b - 0)) = _
  rw [List.drop_zero, Nat.sub_zero]
theorem rfind_one {w : List Nat} {i : Nat} (h : lastOne w = some i) : Txt.rfind (sOf w) (Str.ofString "1") = (i : Int) := by
  have at_iff : ∀ j, StrLaws.At (sOf w) ⟨#[49]⟩ (sOf w).length j ↔ w[j]? = some 49 := fun j => by
    have := StrLaws.subAt_one (sOf w) 49 j
    rw [sOf_list] at this
    exact this
  have hs := lastOne_spec w
  rcases hs with ⟨e, _⟩ | ⟨i2, e, h1, h2⟩
  · rw [e] at h
    cases h
  · rw [e] at h
    cases h
    show (match Builtin.Str.lastOccurrence (sOf w) ⟨#[49]⟩ 0 (sOf w).length with | some i => (i : Int) | none => -1) = (i : Int)
    rcases StrLaws.last_spec (sOf w) ⟨#[49]⟩ with ⟨_, n⟩ | ⟨j, ej, a1, a2⟩
    · exact absurd ((at_iff i).mpr h1) (n i)
    · rw [ej]
      have h3 := (at_iff j).mp a1
      have : i = j := by
        rcases Nat.lt_trichotomy i j with z | z | z
        · exact absurd h3 (h2 j z)
        · exact z
        · exact absurd ((at_iff i).mpr h1) (a2 i z)
      rw [this]
theorem rfind_no {w : List Nat} (h : lastOne w = none) : Txt.rfind (sOf w) (Str.ofString "1") = -1 := by
  have at_iff : ∀ j, StrLaws.At (sOf w) ⟨#[49]⟩ (sOf w).length j ↔ w[j]? = some 49 := fun j => by
    have := StrLaws.subAt_one (sOf w) 49 j
    rw [sOf_list] at this
    exact this
  rcases lastOne_spec w with ⟨_, n⟩ | ⟨i2, e, _⟩
  · show (match Builtin.Str.lastOccurrence (sOf w) ⟨#[49]⟩ 0 (sOf w).length with | some i => (i : Int) | none => -1) = -1
    rcases StrLaws.last_spec (sOf w) ⟨#[49]⟩ with ⟨e, _⟩ | ⟨j, ej, a1, _⟩
    · rw [e]
    · exact absurd ((at_iff j).mp a1) (n j)
  · rw [e] at h
    cases h
def spLess (C : Addr) : Sp := fun vs H Q E => ∃ w : List Nat, vs = [.str (sOf w)] ∧ w.length ≤ 1000 ∧ (∀ i, lastOne w = some i → Q (.str (sOf (lessW w))) H) ∧ (lastOne w = none → E (.ref C) none H)
theorem lastOne_lt {w : List Nat} {i : Nat} (h : lastOne w = some i) : i < w.length := by
  rcases lastOne_spec w with ⟨e, _⟩ | ⟨i2, e, h1, _⟩
  · rw [e] at h
    cases h
  · rw [e] at h
    cases h
    exact (List.getElem?_eq_some_iff.mp h1).1
theorem lessW_len {w : List Nat} {i : Nat} (h : lastOne w = some i) : (lessW w).length = w.length := by
  have := lastOne_lt h
  unfold lessW
  rw [h]
  show (w.take i ++ 48 :: List.replicate (w.length - i - 1) 49).length = w.length
  rw [List.length_append, List.length_cons, List.length_replicate, List.length_take]
  omega
theorem ok_one_less {A : Ad} (T : Txt w K mg base A) : FnOk P w K mg base (L2N.CX P w) 1 A.a_one_less A.d_one_less P_one_less (spLess A.x_NoWords) := by
  refine Fp.okXN T.F_one_less sc_one_less (fun vs H Q E h => ?_) (fun cdv Ar outer s H vs Q E hr h => ?_)
  · obtain ⟨w, rfl, _⟩ := h
    rfl
  · obtain ⟨wd, rfl, lw, q, qx⟩ := h
    refine ⟨_, (pss_cons (ps_set (i := 1) sc_one_less.nd rfl (Or.inl rfl) (pe_bm PySem.F.plainAttrs_str PySem.F.slot_str_rfind PySem.F.type_str_rfind mt_rfind (pv 0) (pa_cons pe_str pa_nil)))
      (pss_cons (ps_if (pt_cmpR op_lt (pv 1) pe_int (nomark _))
      (pss_one (L2N.ps_raise rfl (L2N.takes_of rfl rfl rfl rfl) (L2N.pmk_own PySem.F.excBase_ValueError T.xq_NoWords T.xg_NoWords T.xk_NoWords (raises_own T.xs_NoWords T.xt_NoWords) (by rfl)))) pss_nil)
      (pss_one (ps_ret (pe_op op_add_str (pe_op op_add_str (pe_slice sl_str (pv 0) po_none (po_some (pv 1))) pe_str) (pe_op op_mul_str pe_str (pe_op op_sub (pe_op op_sub (pe_callB call_len_str (by rfl) T.z_len PySem.boot_len (pa_cons (pv 0) pa_nil)) (pv 1)) pe_int))))))), ?_⟩
    have hl : (sOf wd).length ≤ sizeLine := by
      rw [sOf_len]
      exact sz (by omega)
    cases hi : lastOne wd with
    | none =>
      have er := rfind_no hi
      refine ⟨_, rfl, rfl, _, _, rfl, rfl, ?_⟩
      rw [er]
      exact ⟨_, rfl, _, _, rfl, rfl, _, rfl, qx hi⟩
    | some i =>
    have li := lastOne_lt hi
    have er := rfind_one hi
    have q := q i hi
    refine ⟨_, rfl, rfl, _, _, rfl, rfl, ?_⟩
    rw [er]
    refine ⟨_, rfl, _, _, rfl, rfl, _, rfl, ite2 (fun e => ?_) (fun e => ?_)⟩
    · have := of_decide_eq_true e
      omega
    · refine ⟨_, rfl, _, rfl, _, rfl, _, rfl, hl, _, _, rfl, rfl, ?_, _, rfl, _, rfl, hl, _, rfl, _, _, rfl, rfl, _, _, rfl, rfl, 49, _, rfl, rfl, ⟨by rw [sOf_len]; omega, by rw [sOf_len]; omega⟩, _, _, rfl, rfl, ?_, ?_⟩
      · rw [cutS_to wd i (by omega), sOf_len, List.length_take]
        exact sz (by show min i wd.length + 1 ≤ 100000; omega)
      · rw [cutS_to wd i (by omega), show (Str.ofString "0") = sOf [48] from rfl, sOf_app, sOf_len, sOf_len, List.length_append, List.length_take, List.length_replicate, sOf_len]
        exact sz (by show min i wd.length + 1 + _ ≤ 100000; omega)
      · rw [cutS_to wd i (by omega), show (Str.ofString "0") = sOf [48] from rfl, sOf_app, sOf_app]
        have e3 : wd.take i ++ [48] ++ List.replicate (((sOf wd).length : Int) - (i : Int) - 1).toNat 49 = lessW wd := by
          unfold lessW
          rw [hi, sOf_len, List.append_assoc]
          show wd.take i ++ 48 :: List.replicate _ 49 = wd.take i ++ 48 :: List.replicate _ 49
          rw [show ((wd.length : Int) - (i : Int) - 1).toNat = wd.length - i - 1 by omega]
        rw [e3]
        exact q
def nvs (ns : List Nat) : List V := (iv ns).map V.int
theorem nvs_at {ns : List Nat} {p : Nat} (h : p < ns.length) : (nvs ns)[p]? = some (.int ((ns.getD p 0 : Nat) : Int)) := by
  unfold nvs iv
  rw [List.map_map, List.getElem?_map, List.getD_eq_getElem?_getD, List.getElem?_eq_getElem h]
  rfl
theorem rep_nil (n : Nat) : (List.replicate n [V.str (Str.ofString "")]).flatten = (List.replicate n ([] : List Nat)).map sV := by
  induction n with
  | zero => rfl
  | succ k ih =>
    rw [List.replicate_succ, List.flatten_cons, ih, List.replicate_succ]
    rfl
def ahV (o : Option (List Nat)) : V := match o with
  | none => .non
  | some w => .str (sOf w)
theorem tabs_but {T : List (Addr × Str)} {H H' : Hp} {q : Addr} {xs : List V} (h : LamX.Tabs T H) (hq : H q = some (.lst xs)) (e : ∀ b o, b ≠ q → H b = some o → H' b = some o) : LamX.Tabs T H' := fun p hp => by
  obtain ⟨ps, h1, h2, h3⟩ := h p hp
  refine ⟨ps, e _ _ (fun z => ?_) h1, h2, fun pos cv hc => ?_⟩
  · rw [z, hq] at h1
    cases h1
  · obtain ⟨c, e1, e2⟩ := h3 pos cv hc
    refine ⟨c, e1, e _ _ (fun z => ?_) e2⟩
    rw [z, hq] at e2
    unfold LamX.CodeO at e2
    cases e2
abbrev okN (ns : List Nat) : Bool := okW ns (buckets (fun i => (iv ns).getD i 0) ns.length) (startW ns)
def spWords (p C : Addr) : Sp := fun vs H Q E => ∃ (a : Addr) (ns : List Nat), vs = [.ref a] ∧ LamX.Tabs (TT p) H ∧ H a = some (.lst (nvs ns)) ∧ ns.length ≤ 100 ∧ (∀ n ∈ ns, n ≤ 12) ∧
  (okN ns = false → ∀ H', LamX.ExtN H H' → LamX.Tabs (TT p) H' → E (.ref C) none H') ∧
  (okN ns = true → ∀ q H', LamX.ExtN H H' → LamX.Tabs (TT p) H' → H q = none → H' q = some (.lst ((wordsOf ns).map sV)) → Q (.ref q) H')
theorem ok_words_by {A : Ad} (T : Txt w K mg base A) : FnOk P w K mg base (L2N.CX P w) 2 A.a_words_by A.d_words_by P_words_by (spWords A.p_making_order A.x_NoWords) := by
  have G_making_order := ok_making_order (P := P) (w := w) (base := base) T
  have G_one_less := ok_one_less (P := P) (w := w) (base := base) T
  refine Fp.okXN T.F_words_by sc_words_by (fun vs H Q E h => ?_) (fun cdv Ar outer s H vs Q E hr h => ?_)
  · obtain ⟨a, ns, rfl, _⟩ := h
    rfl
  · obtain ⟨a, ns, rfl, hT, ha, ln, hn, qx, qq⟩ := h
    unfold okN at qx qq
    refine ⟨_, (pss_cons (ps_set (i := 1) sc_words_by.nd rfl (Or.inl rfl) (pe_op op_rep (pe_lst (pa_cons pe_str pa_nil)) (pe_callB (r := fun xs H Q => ∃ p ys, xs = [.ref p] ∧ (SqL K H p ys ∨ SqT K H p ys) ∧ Q (.int ys.length) H) call_len_seq (by rfl) T.z_len PySem.boot_len (pa_cons (pv 0) pa_nil))))
      (pss_cons (ps_set (i := 2) sc_words_by.nd rfl (Or.inl rfl) pe_non)
      (pss_cons (ps_for (passes_of rfl) rfl (pi_list (pe_call G_making_order (hr.mono (by decide)) (by rfl) T.g_making_order T.F_making_order.kp T.b_making_order .nil pass0 (pa_cons (pv 0) pa_nil))) (pg_name (i := 3) sc_words_by.nd rfl (Or.inl rfl))
      (pss_cons (ps_set (i := 4) sc_words_by.nd rfl (Or.inl rfl) (pe_ifExp (pt_cmpR op_isN (pv 2) pe_non (nomark _)) pe_str (pe_callS G_one_less (hr.mono (by decide)) (by rfl) T.g_one_less T.F_one_less.kp T.b_one_less (fun σ => L2N.passAt (L2N.takes_of rfl rfl rfl rfl) σ) (pa_cons (pv 2) pa_nil))))
      (pss_cons (ps_set (i := 2) sc_words_by.nd rfl (Or.inl rfl) (pe_bm PySem.F.plainAttrs_str PySem.F.slot_str_ljust PySem.F.type_str_ljust mt_ljustF (pv 4) (pa_cons (pe_ix (r := rIxL K) ix_list (pv 0) (pv 3) (fun _ _ => rfl)) (pa_cons pe_str pa_nil))))
      (pss_one (ps_asg (pv 2) (pg_sub (pv 1) (pv 3) set_list))))))
      (pss_one (ps_ret (pv 1)))))), ?_⟩
    refine ⟨(by show 1 ≤ sizeLine; decide), fun p1 hp1 => ?_⟩
    have s1 : Same H (upd H p1 (.lst [.str (Str.ofString "")])) := same_new hp1
    have nl : (nvs ns).length = ns.length := by unfold nvs; rw [List.length_map, iv_len]
    refine ⟨_, rfl, a, _, rfl, .inl (SqL.of (s1 _ _ ha)), _, _, _, rfl, rfl, upd_same, by omega, by omega, by rw [nl]; show 1 * _ ≤ sizeLine; exact sz (by omega), fun q hq => ?_⟩
    have s2 := s1.trans (same_new (o := .lst (List.replicate ((nvs ns).length : Int).toNat [V.str (Str.ofString "")]).flatten) hq)
    refine ⟨_, rfl, a, iv ns, rfl, tabs_same hT s2, s2 _ _ ha, by rw [iv_len]; omega, fun o H3 eN T3 fr => ?_⟩
    have hq3 : H3 q = some (.lst ((startW ns).1.map sV)) := by
      have := eN q _ upd_same (fun ps z => by cases z)
      rw [this]
      show some (HO.lst (List.replicate ((nvs ns).length : Int).toNat [V.str (Str.ofString "")]).flatten) = some (HO.lst ((List.replicate ns.length ([] : List Nat)).map sV))
      rw [rep_nil, nl]
      rfl
    have fq : H q = none := by
      cases z : H q with
      | none => rfl
      | some u =>
        rw [s1 _ _ z] at hq
        cases hq
    have nqo : q ≠ o := ne_of_none hq3 fr
    rw [order_iv hn]
    generalize hord : buckets (fun i => (iv ns).getD i 0) ns.length = ord at *
    have ha3 : H3 a = some (.lst (nvs ns)) := eN a _ (s2 _ _ ha) (fun ps z => by cases z)
    have nao : a ≠ o := ne_of_none ha3 fr
    have naq : a ≠ q := ne_of_none ha fq
    refine ⟨o, rfl, ⟨_, SqL.of upd_same⟩, for_list (K := K) (a := o) (xs := ord.map fun (i : Nat) => V.int (i : Int)) (fun i σ H' => ∃ y3 y4, σ = [some (.ref a), some (.ref q), some (ahV ((ord.take i).foldl (stepW ns) (startW ns)).2), y3, y4] ∧ H' q = some (.lst (((ord.take i).foldl (stepW ns) (startW ns)).1.map sV)) ∧ okW ns (ord.take i) (startW ns) = true ∧ ∀ b u, b ≠ q → upd H3 o (.lst (ord.map fun (i : Nat) => V.int (i : Int))) b = some u → H' b = some u)
      ⟨none, none, rfl, by rw [upd_ne nqo]; exact hq3, rfl, fun b u _ h => h⟩ (fun i σ H' _ ⟨_, _, _, _, _, ke⟩ => SqL.of (ke o _ nqo.symm upd_same)) ?_ ?_⟩
    · rintro i x σ H' hx ⟨y3, y4, rfl, hq', okI, ke⟩
      rw [List.getElem?_map] at hx
      obtain ⟨p, hp, rfl⟩ : ∃ p, ord[i]? = some p ∧ V.int (p : Int) = x := by
        cases e : ord[i]? with
        | none =>
          rw [e] at hx
          cases hx
        | some p =>
          rw [e] at hx
          exact ⟨p, rfl, Option.some.inj hx⟩
      have pn : p < ns.length := by
        have := List.mem_of_getElem? hp
        rw [← hord] at this
        exact mem_buckets this
      have lst := lenW_fold hn (ord.take i) _ (lenW_start ns)
      have okbad : ∀ wd, ((ord.take i).foldl (stepW ns) (startW ns)).2 = some wd → lastOne wd = none → okW ns ord (startW ns) = false := fun wd e1 e2 => by
        cases z : okW ns ord (startW ns) with
        | false => rfl
        | true =>
          obtain ⟨j, hj⟩ := okW_at ord (startW ns) i p hp z wd e1
          rw [e2] at hj
          cases hj
      have okgo := fun hh => okW_snoc (ns := ns) p (ord.take i) (startW ns) okI hh
      rw [← take_more ord i p hp] at okgo
      have fst : (ord.take (i + 1)).foldl (stepW ns) (startW ns) = stepW ns ((ord.take i).foldl (stepW ns) (startW ns)) p := by
        rw [take_more ord i p hp, List.foldl_append]
        rfl
      have wl : ((ord.take i).foldl (stepW ns) (startW ns)).1.length = ns.length := by
        rw [words_len]
        exact List.length_replicate
      have ha' : H' a = some (.lst (nvs ns)) := ke a _ naq (by rw [upd_ne nao]; exact ha3)
      have atl : atI (nvs ns) (p : Int) = some (.int ((ns.getD p 0 : Nat) : Int)) := atI_nat (nvs_at pn)
      have hg : ns.getD p 0 ≤ 12 := by
        rw [List.getD_eq_getElem?_getD, List.getElem?_eq_getElem pn]
        exact hn _ (List.getElem_mem pn)
      generalize hst : (ord.take i).foldl (stepW ns) (startW ns) = st at *
      cases h2 : st.2 with
      | none =>
        have okS := okgo fun u hu => by
          rw [h2] at hu
          cases hu
        have e1 : st.1.set p ([] ++ List.replicate (((ns.getD p 0 : Nat) : Int).toNat - ([] : List Nat).length) 49) = (stepW ns st p).1 := by
          unfold stepW
          rw [h2]
          rfl
        have e2 : (stepW ns st p).2 = some ([] ++ List.replicate (ns.getD p 0 - ([] : List Nat).length) 49) := by
          unfold stepW
          rw [h2]
        refine ⟨_, rfl, rfl, _, rfl, ?_⟩
        refine ⟨_, rfl, rfl, _, rfl, _, rfl, _, _, _, .int ((ns.getD p 0 : Nat) : Int), rfl, rfl, SqL.of ha', atl, ([] : List Nat), _, 49, rfl, rfl, ⟨by omega, by omega⟩, ?_⟩
        refine ⟨_, rfl, _, rfl, _, rfl, q, _, _, p, rfl, rfl, hq', Evl.ixN_nat (by rw [List.length_map, wl]; omega), ?_⟩
        refine ⟨some (.int (p : Int)), some (.str (sOf ([] : List Nat))), ?_, ?_, okS, fun b u nb hb => by rw [upd_ne nb]; exact ke b u nb hb⟩
        · rw [fst, e2]
          rfl
        · rw [fst, upd_same]
          show some (HO.lst ((st.1.map sV).set p (sV (([] : List Nat) ++ List.replicate (((ns.getD p 0 : Nat) : Int).toNat - (([] : List Nat)).length) 49)))) = _
          rw [← List.map_set, e1]
      | some wd =>
        cases hj : lastOne wd with
        | none =>
          refine ⟨_, rfl, rfl, _, rfl, _, rfl, wd, rfl, ?_, fun i e => (by rw [hj] at e; cases e), fun _ => ?_⟩
          · have := lst wd h2
            omega
          · refine qx (okbad wd h2 hj) H' (fun b u hb nt => ?_) ?_
            · have nbq : b ≠ q := ne_of_none hb fq
              have h3 := eN b u (s2 _ _ hb) nt
              exact ke b u nbq (by rw [upd_ne (ne_of_none h3 fr)]; exact h3)
            · exact tabs_but (q := q) (H := upd H3 o (.lst (ord.map fun (i : Nat) => V.int (i : Int)))) (tabs_same T3 (same_new fr)) (by rw [upd_ne nqo]; exact hq3) ke
        | some j =>
        have okS := okgo fun u hu => by
          rw [h2] at hu
          cases hu
          exact ⟨j, hj⟩
        have lw := lst wd h2
        have ll := lessW_len hj
        have e1 : st.1.set p (lessW wd ++ List.replicate (((ns.getD p 0 : Nat) : Int).toNat - (lessW wd).length) 49) = (stepW ns st p).1 := by
          unfold stepW
          rw [h2]
          rfl
        have e2 : (stepW ns st p).2 = some (lessW wd ++ List.replicate (ns.getD p 0 - (lessW wd).length) 49) := by
          unfold stepW
          rw [h2]
        refine ⟨_, rfl, rfl, _, rfl, _, rfl, wd, rfl, (by omega), (fun i2 e9 => ?_), fun e => (by rw [hj] at e; cases e)⟩
        refine ⟨_, rfl, rfl, _, rfl, _, rfl, _, _, _, .int ((ns.getD p 0 : Nat) : Int), rfl, rfl, SqL.of ha', atl, (lessW wd), _, 49, rfl, rfl, ⟨by omega, by omega⟩, ?_⟩
        refine ⟨_, rfl, _, rfl, _, rfl, q, _, _, p, rfl, rfl, hq', Evl.ixN_nat (by rw [List.length_map, wl]; omega), ?_⟩
        refine ⟨some (.int (p : Int)), some (.str (sOf (lessW wd))), ?_, ?_, okS, fun b u nb hb => by rw [upd_ne nb]; exact ke b u nb hb⟩
        · rw [fst, e2]
          rfl
        · rw [fst, upd_same]
          show some (HO.lst ((st.1.map sV).set p (sV ((lessW wd) ++ List.replicate (((ns.getD p 0 : Nat) : Int).toNat - ((lessW wd)).length) 49)))) = _
          rw [← List.map_set, e1]
    · rintro σ H' ⟨y3, y4, rfl, hq', okI, ke⟩
      rw [List.length_map, List.take_length] at hq' okI
      have hw : (ord.foldl (stepW ns) (startW ns)).1 = wordsOf ns := by
        unfold Fp.wordsOf
        rw [hord]
      rw [hw] at hq'
      refine ⟨_, rfl, qq okI q H' (fun b u hb nt => ?_) ?_ fq hq'⟩
      · have nbq : b ≠ q := ne_of_none hb fq
        have h3 := eN b u (s2 _ _ hb) nt
        exact ke b u nbq (by rw [upd_ne (ne_of_none h3 fr)]; exact h3)
      · refine tabs_but (q := q) (H := upd H3 o (.lst (ord.map fun (i : Nat) => V.int (i : Int)))) (tabs_same T3 (same_new fr)) (by rw [upd_ne nqo]; exact hq3) ke

theorem nvs_app (ns : List Nat) (n : Nat) : nvs ns ++ [.int (n : Int)] = nvs (ns ++ [n]) := by
  unfold nvs iv
  rw [List.map_append, List.map_append]
  rfl
theorem nvs_len (ns : List Nat) : (nvs ns).length = ns.length := by
  unfold nvs
  rw [List.length_map, iv_len]
def spLengths : Sp := fun vs H Q _ => ∃ b : Addr, vs = [.ref b] ∧ BagAt H b ∧ ∀ q ns H', 1 ≤ ns.length → ns.length ≤ 40 → (∀ n ∈ ns, 1 ≤ n ∧ n ≤ 12) → Bx b H H' → H q = none → H' q = some (.lst (nvs ns)) → Q (.ref q) H'
theorem ok_lengths {A : Ad} (T : Txt w K mg base A) : FnOk P w K mg base CX0 2 A.a_lengths A.d_lengths P_lengths spLengths := by
  have G_draw := ok_draw (P := P) (w := w) (base := base) T
  refine T.F_lengths.ok sc_lengths (fun vs H Q E h => ?_) (fun cdv Ar outer s H vs Q E hr h => ?_)
  · obtain ⟨b, rfl, _⟩ := h
    rfl
  · obtain ⟨b, rfl, hb, qq⟩ := h
    refine ⟨_, (pss_cons (ps_set (i := 1) sc_lengths.nd rfl (Or.inl rfl) (pe_ix (r := rIxL K) ix_list (pe_lst (pa_cons (pe_op op_add pe_int (pe_call G_draw (hr.mono (by decide)) (by rfl) T.g_draw T.F_draw.kp T.b_draw .nil pass0 (pa_cons (pv 0) (pa_cons pe_int pa_nil)))) (pa_cons (pe_op op_add pe_int (pe_call G_draw (hr.mono (by decide)) (by rfl) T.g_draw T.F_draw.kp T.b_draw .nil pass0 (pa_cons (pv 0) (pa_cons pe_int pa_nil)))) (pa_cons pe_int (pa_cons (pe_op op_add pe_int (pe_call G_draw (hr.mono (by decide)) (by rfl) T.g_draw T.F_draw.kp T.b_draw .nil pass0 (pa_cons (pv 0) (pa_cons pe_int pa_nil)))) pa_nil))))) (pe_call G_draw (hr.mono (by decide)) (by rfl) T.g_draw T.F_draw.kp T.b_draw .nil pass0 (pa_cons (pv 0) (pa_cons pe_int pa_nil))) (fun _ _ => rfl)))
      (pss_cons (ps_set (i := 2) sc_lengths.nd rfl (Or.inl rfl) (pe_op op_add pe_int (pe_call G_draw (hr.mono (by decide)) (by rfl) T.g_draw T.F_draw.kp T.b_draw .nil pass0 (pa_cons (pv 0) (pa_cons pe_int pa_nil)))))
      (pss_cons (ps_set (i := 3) sc_lengths.nd rfl (Or.inl rfl) (pe_cmpR op_eq (pe_call G_draw (hr.mono (by decide)) (by rfl) T.g_draw T.F_draw.kp T.b_draw .nil pass0 (pa_cons (pv 0) (pa_cons pe_int pa_nil))) pe_int (nomark _)))
      (pss_cons (ps_set (i := 4) sc_lengths.nd rfl (Or.inl rfl) (pe_lst pa_nil))
      (pss_cons (ps_for PassesOwn.never rfl (pi_range1 (by rfl) T.z_range (pa_cons (pv 1) pa_nil)) (pg_name (i := 5) sc_lengths.nd rfl (Or.inl rfl))
      (pss_cons (ps_set (i := 6) sc_lengths.nd rfl (Or.inl rfl) (pv 2))
      (pss_cons (ps_if (pt_not (pt_val (pv 3)))
      (pss_one (ps_set (i := 6) sc_lengths.nd rfl (Or.inl rfl) (pe_op op_add (pv 2) (pe_call G_draw (hr.mono (by decide)) (by rfl) T.g_draw T.F_draw.kp T.b_draw .nil pass0 (pa_cons (pv 0) (pa_cons (pe_op op_sub pe_int (pv 2)) pa_nil)))))) pss_nil)
      (pss_one (ps_expr (pe_bm PySem.F.plainAttrs_list PySem.F.slot_list_append PySem.F.type_list_append mt_append (pv 4) (pa_cons (pv 6) pa_nil)))))))
      (pss_one (ps_ret (pv 4)))))))), ?_⟩
    refine ⟨_, rfl, b, 4, rfl, hb, by decide, by decide, fun d1 H1 d10 d11 bx1 => ?_⟩
    refine ⟨_, _, rfl, rfl, _, rfl, b, 40, rfl, bx1.1, by decide, by decide, fun d2 H2 d20 d21 bx2 => ?_⟩
    refine ⟨_, _, rfl, rfl, _, rfl, b, 16, rfl, bx2.1, by decide, by decide, fun d3 H3 d30 d31 bx3 => ?_⟩
    refine ⟨_, _, rfl, rfl, (by show 4 ≤ sizeLine; decide), fun p hp => ?_⟩
    have b3 := (bx1.trans bx2).trans bx3
    have np : p ≠ b := b3.1.ne hp
    have b4 := fun (o : HO) => b3.same (same_new (o := o) hp)
    refine ⟨_, rfl, b, 4, rfl, (b4 _).1, by decide, by decide, fun d4 H4 d40 d41 bx4 => ?_⟩
    obtain ⟨m, em, m1, m40⟩ : ∃ m : Int, atI [V.int (1 + d1), V.int (1 + d2), V.int 40, V.int (1 + d3)] d4 = some (.int m) ∧ 1 ≤ m ∧ m ≤ 40 := by
      have : d4 = 0 ∨ d4 = 1 ∨ d4 = 2 ∨ d4 = 3 := by omega
      rcases this with rfl | rfl | rfl | rfl
      · exact ⟨_, rfl, by omega, by omega⟩
      · exact ⟨_, rfl, by omega, by omega⟩
      · exact ⟨_, rfl, by omega, by omega⟩
      · exact ⟨_, rfl, by omega, by omega⟩
    refine ⟨_, _, _, .int m, rfl, rfl, SqL.of (bx4.2 _ _ np upd_same), em, ?_⟩
    refine ⟨_, rfl, b, 12, rfl, bx4.1, by decide, by decide, fun d5 H5 d50 d51 bx5 => ?_⟩
    refine ⟨_, _, rfl, rfl, ?_⟩
    refine ⟨_, rfl, b, 5, rfl, bx5.1, by decide, by decide, fun d6 H6 d60 d61 bx6 => ?_⟩
    refine ⟨rfl, ?_⟩
    have b6 : Bx b H H6 := (((b4 _).trans bx4).trans bx5).trans bx6
    refine ⟨(by show 0 ≤ sizeLine; decide), fun q hq => ?_⟩
    have fq : H q = none := b6.free hq
    have nq : q ≠ b := b6.1.ne hq
    generalize hal : decide (V.int d6 = V.int 3) = al
    refine ⟨_, rfl, _, rfl, by omega, by omega, for_range (fun i σ H' => ∃ (ns : List Nat) (y5 y6 : Option V), σ = [some (.ref b), some (.int m), some (.int (1 + d5)), some (.bl al), some (.ref q), y5, y6] ∧ H' q = some (.lst (nvs ns)) ∧ ns.length = i ∧ (∀ n ∈ ns, 1 ≤ n ∧ n ≤ 12) ∧ Bx b H H')
      ⟨[], none, none, rfl, upd_same, rfl, (fun n hn => nomatch hn), b6.same (same_new hq)⟩ ?_ ?_⟩
    · rintro i σ H7 hi ⟨ns, y5, y6, rfl, e7, l7, n7, b7⟩
      have fin : ∀ (x : Int) (H8 : Hp), 1 ≤ x → x ≤ 12 → Bx b H H8 → H8 q = some (.lst (nvs ns)) → ∃ (ns2 : List Nat) (y5 y6 : Option V), [some (V.ref b), some (.int m), some (.int (1 + d5)), some (.bl al), some (.ref q), some (.int (0 + (i : Int))), some (.int x)] = [some (.ref b), some (.int m), some (.int (1 + d5)), some (.bl al), some (.ref q), y5, y6] ∧ upd H8 q (.lst (nvs ns ++ [.int x])) q = some (.lst (nvs ns2)) ∧ ns2.length = i + 1 ∧ (∀ n ∈ ns2, 1 ≤ n ∧ n ≤ 12) ∧ Bx b H (upd H8 q (.lst (nvs ns ++ [.int x]))) := by
        intro x H8 x1 x12 b8 e8
        obtain ⟨n, rfl⟩ := Int.eq_ofNat_of_zero_le (show 0 ≤ x by omega)
        refine ⟨ns ++ [n], _, _, rfl, by rw [upd_same, ← nvs_app], by rw [List.length_append, l7]; rfl, fun k hk => ?_, b8.mut fq nq⟩
        rcases List.mem_append.mp hk with z | z
        · exact n7 k z
        · rw [List.mem_singleton.mp z]
          omega
      refine ⟨_, rfl, _, rfl, _, rfl, ?_⟩
      have lz : (nvs ns).length < sizeLine := by
        rw [nvs_len]
        exact szl (by omega)
      cases al with
      | true =>
        refine ⟨_, rfl, .inl ⟨rfl, _, SqL.of e7⟩, _, rfl, q, _, _, rfl, rfl, e7, lz, ?_⟩
        exact fin (1 + d5) H7 (by omega) (by omega) b7 e7
      | false =>
        refine ⟨_, rfl, _, rfl, _, rfl, _, _, rfl, rfl, b, 13 - (1 + d5), rfl, b7.1, by omega, by omega, fun d7 H8 d70 d71 bx8 => ?_⟩
        have e8 := bx8.2 _ _ nq e7
        refine ⟨_, _, rfl, rfl, ?_⟩
        refine ⟨_, rfl, .inl ⟨rfl, _, SqL.of e8⟩, _, rfl, q, _, _, rfl, rfl, e8, lz, ?_⟩
        exact fin (1 + d5 + d7) H8 (by omega) (by omega) (b7.trans bx8) e8
    · rintro σ H7 ⟨ns, y5, y6, rfl, e7, l7, n7, b7⟩
      exact ⟨_, rfl, qq q ns H7 (by omega) (by omega) n7 b7 fq e7⟩

def spLawLess : Sp := fun vs H Q _ => ∃ w : List Nat, vs = [.str (sOf w)] ∧ w.length ≤ 20 ∧ Q (ahV (lawLess w)) H
theorem bits_at {n : Nat} : atI (Str.ofString "01").cps.toList (((n : Nat) : Int) % 2) = some (48 + n % 2) := by
  have : n % 2 = 0 ∨ n % 2 = 1 := by omega
  rcases this with h | h
  · rw [h, show ((n : Nat) : Int) % 2 = 0 by omega]
    rfl
  · rw [h, show ((n : Nat) : Int) % 2 = 1 by omega]
    rfl
theorem one_eq (c : Nat) : decide (V.str ⟨#[c]⟩ = V.str (Str.ofString "1")) = decide (c = 49) := by
  apply decide_eq_decide.mpr
  exact ⟨fun h => by
    have h2 : sOf [c] = sOf [49] := V.str.inj h
    have := sOf_inj h2
    simp_all, fun h => by rw [h]; rfl⟩
theorem ok_less {A : Ad} (T : Txt w K mg base A) : FnOk P w K mg base CX0 1 A.a_less A.d_less P_less spLawLess := by
  refine T.F_less.ok sc_less (fun vs H Q E h => ?_) (fun cdv Ar outer s H vs Q E hr h => ?_)
  · obtain ⟨wd, rfl, _⟩ := h
    rfl
  · obtain ⟨wd, rfl, lw, q⟩ := h
    refine ⟨_, (pss_cons (ps_set (i := 1) sc_less.nd rfl (Or.inl rfl) pe_int)
      (pss_cons (ps_for PassesOwn.never rfl (pi_str (pv 0)) (pg_name (i := 2) sc_less.nd rfl (Or.inl rfl))
      (pss_one (ps_set (i := 1) sc_less.nd rfl (Or.inl rfl) (pe_op op_add (pe_op op_mul pe_int (pv 1)) (pe_callTy call_int1 (by rfl) T.z_int (by decide +kernel) (pa_cons (pe_cmpR op_eq (pv 2) pe_str (nomark _)) pa_nil))))))
      (pss_cons (ps_if (pt_cmpR op_eq (pv 1) pe_int (nomark _))
      (pss_one (ps_ret pe_non)) pss_nil)
      (pss_cons (ps_set (i := 1) sc_less.nd rfl (Or.inl rfl) (pe_op op_sub (pv 1) pe_int))
      (pss_cons (ps_set (i := 3) sc_less.nd rfl (Or.inl rfl) pe_str)
      (pss_cons (ps_for PassesOwn.never rfl (pi_str (pv 0)) (pg_name (i := 2) sc_less.nd rfl (Or.inl rfl))
      (pss_cons (ps_set (i := 3) sc_less.nd rfl (Or.inl rfl) (pe_op op_add_str (pe_ix ix_str pe_str (pe_op op_mod (pv 1) pe_int) (fun _ _ => rfl)) (pv 3)))
      (pss_one (ps_set (i := 1) sc_less.nd rfl (Or.inl rfl) (pe_op op_fdiv (pv 1) pe_int)))))
      (pss_one (ps_ret (pv 3))))))))), ?_⟩
    have sz1 : (sOf wd).cps.size = wd.length := by simp [sOf]
    refine ⟨_, rfl, _, rfl, for_it (walk_str (z := sOf wd)) (fun i σ H' => ∃ y2, σ = [some (.str (sOf wd)), some (.int ((bitsVal (wd.take i) : Nat) : Int)), y2, none] ∧ H' = H) ⟨none, rfl, rfl⟩ (fun _ _ _ _ _ => trivial) ?_ ?_⟩
    · rintro i x σ H1 H2 hi ⟨y2, rfl, rfl⟩ ⟨rfl, c, hc, rfl⟩
      have hc' : wd[i]? = some c := by simpa [sOf] using hc
      refine ⟨_, rfl, _, _, rfl, rfl, .inl ⟨by decide, by decide⟩, _, rfl, rfl, .inr ⟨_, rfl, _, _, rfl, rfl, ?_⟩⟩
      refine ⟨some (.str ⟨#[c]⟩), ?_, rfl⟩
      rw [one_eq, take_more wd i c hc']
      have e : bitsVal (wd.take i ++ [c]) = 2 * bitsVal (wd.take i) + if c = 49 then 1 else 0 := by
        unfold bitsVal
        rw [List.foldl_append]
        rfl
      rw [e]
      by_cases h : c = 49
      · rw [if_pos h, decide_eq_true h]
        rfl
      · rw [if_neg h, decide_eq_false h]
        rfl
    · rintro σ H1 ⟨y2, rfl, rfl⟩
      rw [sz1, List.take_length]
      refine ⟨_, rfl, rfl, _, rfl, ite2 (fun e => ?_) (fun e => ?_)⟩
      · have e0 : bitsVal wd = 0 := by
          have := V.int.inj (of_decide_eq_true e)
          omega
        unfold lawLess at q
        rw [if_pos e0] at q
        exact q
      · have e0 : ¬ bitsVal wd = 0 := fun z => e (decide_eq_true (by rw [z]; rfl))
        unfold lawLess at q
        rw [if_neg e0] at q
        refine ⟨_, rfl, _, _, rfl, rfl, ?_⟩
        refine ⟨_, rfl, _, rfl, for_it (walk_str (z := sOf wd)) (fun i σ H' => ∃ (n : Nat) (acc : List Nat) (y2 : Option V), σ = [some (.str (sOf wd)), some (.int (n : Int)), y2, some (.str (sOf acc))] ∧ H' = H1 ∧ bitsOf (wd.length - i) n acc = bitsOf wd.length (bitsVal wd - 1) [] ∧ acc.length = i) ⟨bitsVal wd - 1, [], y2, ?_, rfl, rfl, rfl⟩ (fun _ _ _ _ _ => trivial) ?_ ?_⟩
        · rw [show ((bitsVal wd - 1 : Nat) : Int) = ((bitsVal wd : Nat) : Int) - 1 by omega]
          rfl
        · rintro i x σ H2 H3 hi ⟨n, acc, y3, rfl, rfl, hb, la⟩ ⟨rfl, c, hc, rfl⟩
          have hi2 : i < wd.length := by rw [← sz1]; exact hi
          refine ⟨_, rfl, _, _, rfl, rfl, (by show (0 : Int) < 2; decide), _, _, _, rfl, rfl, (by decide +kernel), bits_at (n := n), _, rfl, _, _, rfl, rfl, ?_, ?_⟩
          · show 1 + (sOf acc).length ≤ sizeLine
            rw [sOf_len]
            exact sz (by omega)
          · refine ⟨_, rfl, _, _, rfl, rfl, ⟨by decide, by decide⟩, ?_⟩
            refine ⟨n / 2, (48 + n % 2) :: acc, some (.str ⟨#[c]⟩), ?_, rfl, ?_, ?_⟩
            · rw [show (⟨#[48 + n % 2]⟩ : Str) ++ sOf acc = sOf ((48 + n % 2) :: acc) from sOf_app [48 + n % 2] acc, show ((n / 2 : Nat) : Int) = ((n : Nat) : Int) / 2 by omega]
              rfl
            · rw [← hb, show wd.length - i = (wd.length - (i + 1)) + 1 by omega]
              rfl
            · rw [List.length_cons, la]
        · rintro σ H2 ⟨n, acc, y3, rfl, rfl, hb, la⟩
          rw [sz1, Nat.sub_self] at hb
          refine ⟨_, rfl, ?_⟩
          have : acc = bitsOf wd.length (bitsVal wd - 1) [] := hb
          rw [this]
          exact q
def spLawWords : Sp := fun vs H Q _ => ∃ (a : Addr) (ns : List Nat), vs = [.ref a] ∧ H a = some (.lst (nvs ns)) ∧ ns.length ≤ 100 ∧ (∀ n ∈ ns, n ≤ 12) ∧
  (∀ H', Same H H' → lawW ns = none → Q .non H') ∧ ∀ q W l H', lawW ns = some (W, l) → H q = none → Same H H' → H' q = some (.lst (W.map sV)) → Q (.ref q) H'
theorem ok_words {A : Ad} (T : Txt w K mg base A) : FnOk P w K mg base CX0 2 A.a_words A.d_words P_words spLawWords := by
  have G_less := ok_less (P := P) (w := w) (base := base) T
  refine T.F_words.ok sc_words (fun vs H Q E h => ?_) (fun cdv Ar outer s H vs Q E hr h => ?_)
  · obtain ⟨a, ns, rfl, _⟩ := h
    rfl
  · obtain ⟨a, ns, rfl, ha, ln, hn, q0, qq⟩ := h
    refine ⟨_, (pss_cons (ps_set (i := 1) sc_words.nd rfl (Or.inl rfl) (pe_op op_rep (pe_lst (pa_cons pe_str pa_nil)) (pe_callB (r := fun xs H Q => ∃ p ys, xs = [.ref p] ∧ (SqL K H p ys ∨ SqT K H p ys) ∧ Q (.int ys.length) H) call_len_seq (by rfl) T.z_len PySem.boot_len (pa_cons (pv 0) pa_nil))))
      (pss_cons (ps_set (i := 2) sc_words.nd rfl (Or.inl rfl) pe_str)
      (pss_cons (ps_for PassesOwn.never rfl (pi_range2 (by rfl) T.z_range (pa_cons pe_int (pa_cons pe_int pa_nil))) (pg_name (i := 3) sc_words.nd rfl (Or.inl rfl))
      (pss_one (ps_for PassesOwn.never rfl (pi_range1 (by rfl) T.z_range (pa_cons (pe_callB (r := fun xs H Q => ∃ p ys, xs = [.ref p] ∧ (SqL K H p ys ∨ SqT K H p ys) ∧ Q (.int ys.length) H) call_len_seq (by rfl) T.z_len PySem.boot_len (pa_cons (pv 0) pa_nil)) pa_nil)) (pg_name (i := 4) sc_words.nd rfl (Or.inl rfl))
      (pss_one (ps_if (pt_cmpR op_eq (pe_ix (r := rIxL K) ix_list (pv 0) (pv 4) (fun _ _ => rfl)) (pv 3) (nomark _))
      (pss_cons (ps_if (pt_cmpR op_ne (pv 2) pe_str (nomark _))
      (pss_one (ps_set (i := 2) sc_words.nd rfl (Or.inl rfl) (pe_call G_less (hr.mono (by decide)) (by rfl) T.g_less T.F_less.kp T.b_less .nil pass0 (pa_cons (pv 2) pa_nil)))) pss_nil)
      (pss_cons (ps_if (pt_cmpR op_isN (pv 2) pe_non (nomark _))
      (pss_one (ps_ret pe_non)) pss_nil)
      (pss_cons (ps_set (i := 2) sc_words.nd rfl (Or.inl rfl) (pe_op op_add_str (pv 2) (pe_op op_mul_str pe_str (pe_op op_sub (pv 3) (pe_callB call_len_str (by rfl) T.z_len PySem.boot_len (pa_cons (pv 2) pa_nil))))))
      (pss_one (ps_asg (pv 2) (pg_sub (pv 1) (pv 4) set_list)))))) pss_nil)))))
      (pss_one (ps_ret (pv 1)))))), ?_⟩
    have nl : (nvs ns).length = ns.length := by unfold nvs; rw [List.length_map, iv_len]
    refine ⟨(by show 1 ≤ sizeLine; decide), fun p1 hp1 => ?_⟩
    have s1 : Same H (upd H p1 (.lst [.str (Str.ofString "")])) := same_new hp1
    refine ⟨_, rfl, a, _, rfl, .inl (SqL.of (s1 _ _ ha)), _, _, _, rfl, rfl, upd_same, by omega, by omega, by rw [nl]; show 1 * _ ≤ sizeLine; exact sz (by omega), fun q hq => ?_⟩
    have s2 := s1.trans (same_new (o := .lst (List.replicate ((nvs ns).length : Int).toNat [V.str (Str.ofString "")]).flatten) hq)
    have fq : H q = none := by
      cases z : H q with
      | none => rfl
      | some u =>
        rw [s1 _ _ z] at hq
        cases hq
    have naq : a ≠ q := ne_of_none ha fq
    have sameOf : ∀ {H' : Hp}, (∀ b u, b ≠ q → upd H p1 (.lst [.str (Str.ofString "")]) b = some u → H' b = some u) → Same H H' := fun ke b u hb => ke b u (ne_of_none hb fq) (s1 _ _ hb)
    refine ⟨_, _, rfl, ⟨by decide, by decide, by decide, by decide⟩, for_range (lo := 1) (n := 12) (fun i σ H' => ∃ (f : List (List Nat)) (l : List Nat) (y3 y4 : Option V), σ = [some (.ref a), some (.ref q), some (.str (sOf l)), y3, y4] ∧ (ls12.take i).foldl (rowL ns) (some (List.replicate ns.length [], [])) = some (f, l) ∧ H' q = some (.lst (f.map sV)) ∧ l.length ≤ 12 ∧ f.length = ns.length ∧ ∀ b u, b ≠ q → upd H p1 (.lst [.str (Str.ofString "")]) b = some u → H' b = some u)
      ⟨List.replicate ns.length [], [], none, none, rfl, rfl, ?_, by decide, List.length_replicate, fun b u nb hb => by rw [upd_ne nb]; exact hb⟩ ?_ ?_⟩
    · rw [upd_same, rep_nil, nl]
      rfl
    · rintro i σ H1 hi ⟨f, l, y3, y4, rfl, e1, hq1, ll, lf, ke⟩
      have ha1 : H1 a = some (.lst (nvs ns)) := ke a _ naq (s1 _ _ ha)
      have row1 : (ls12.take (i + 1)).foldl (rowL ns) (some (List.replicate ns.length [], [])) = (List.range ns.length).foldl (stepL ns (i + 1)) (some (f, l)) := by
        rw [take_more ls12 i (i + 1) (ls12_at hi), List.foldl_append, e1]
        rfl
      generalize hFL : (some (f, l) : Option (List (List Nat) × List Nat)) = FL at row1 e1
      refine ⟨_, rfl, a, _, rfl, .inl (SqL.of ha1), _, rfl, by rw [nl]; omega, by rw [nl]; omega, ?_⟩
      rw [show ((nvs ns).length : Int).toNat = ns.length by rw [nl]; rfl]
      refine for_range (lo := 0) (n := ns.length) (fun j σ H' => ∃ (f : List (List Nat)) (l2 : List Nat) (y4 : Option V), σ = [some (.ref a), some (.ref q), some (.str (sOf l2)), some (.int (1 + (i : Int))), y4] ∧ ((List.range ns.length).take j).foldl (stepL ns (i + 1)) FL = some (f, l2) ∧ H' q = some (.lst (f.map sV)) ∧ l2.length ≤ 12 ∧ f.length = ns.length ∧ ∀ b u, b ≠ q → upd H p1 (.lst [.str (Str.ofString "")]) b = some u → H' b = some u)
        ⟨f, l, y4, rfl, hFL.symm, hq1, ll, lf, ke⟩ ?_ ?_
      · rintro j σ H2 hj ⟨f, l, y4, rfl, e2, hq2, ll, lf, ke2⟩
        have ha2 : H2 a = some (.lst (nvs ns)) := ke2 a _ naq (s1 _ _ ha)
        have fst2 : ((List.range ns.length).take (j + 1)).foldl (stepL ns (i + 1)) FL = stepL ns (i + 1) (((List.range ns.length).take j).foldl (stepL ns (i + 1)) FL) j := by
          rw [take_more (List.range ns.length) j j (List.getElem?_range hj), List.foldl_append]
          rfl
        refine ⟨_, rfl, _, rfl, _, _, _, .int ((ns.getD j 0 : Nat) : Int), rfl, rfl, SqL.of ha2, (by rw [Int.zero_add]; exact atI_nat (nvs_at hj)), _, rfl, rfl, _, rfl, ite2 (fun e => ?_) (fun e => ?_)⟩
        · have en : ns.getD j 0 = i + 1 := by
            have := V.int.inj (of_decide_eq_true e)
            omega
          refine ⟨_, rfl, rfl, _, rfl, ?_⟩
          by_cases hl0 : l = []
          · subst hl0
            rw [show (!decide (V.str (sOf []) = V.str (Str.ofString ""))) = false by rw [decide_eq_true (show V.str (sOf []) = V.str (Str.ofString "") from rfl)]; rfl]
            have l0 : ([] : List Nat).length = 0 := rfl
            refine ⟨_, rfl, rfl, _, rfl, ?_⟩
            refine ⟨_, rfl, _, rfl, _, rfl, _, rfl, (by rw [sOf_len]; exact sz (by omega)), _, _, rfl, rfl, 49, _, rfl, rfl, ⟨by rw [sOf_len]; omega, by rw [sOf_len]; omega⟩, _, _, rfl, rfl, ?_, ?_⟩
            · rw [sOf_len, sOf_len, List.length_replicate]
              exact sz (by omega)
            refine ⟨_, rfl, _, rfl, _, rfl, q, _, _, j, rfl, rfl, hq2, (by rw [Int.zero_add]; exact Evl.ixN_nat (by rw [List.length_map]; omega)), ?_⟩
            have ec : sOf ([] : List Nat) ++ sOf (List.replicate ((1 + (i : Int)) - ((sOf ([] : List Nat)).length : Int)).toNat 49) = sOf (([] : List Nat) ++ List.replicate (i + 1 - (([] : List Nat)).length) 49) := by
              rw [sOf_app, sOf_len, show ((1 + (i : Int)) - ((([] : List Nat)).length : Int)).toNat = i + 1 - (([] : List Nat)).length by omega]
            refine ⟨f.set j (([] : List Nat) ++ List.replicate (i + 1 - (([] : List Nat)).length) 49), ([] : List Nat) ++ List.replicate (i + 1 - (([] : List Nat)).length) 49, some (.int (0 + (j : Int))), ?_, ?_, ?_, ?_, ?_, fun b u nb hb => by rw [upd_ne nb]; exact ke2 b u nb hb⟩
            · rw [← ec]
              rfl
            · rw [fst2, e2]
              exact stepL_yes en (if_pos rfl)
            · rw [upd_same]
              show some (HO.lst ((f.map sV).set j (V.str _))) = _
              rw [ec]
              show some (HO.lst ((f.map sV).set j (sV (([] : List Nat) ++ List.replicate (i + 1 - (([] : List Nat)).length) 49)))) = _
              rw [← List.map_set]
            · rw [List.length_append, List.length_replicate]
              omega
            · rw [List.length_set]
              exact lf
          · have ne0 : (!decide (V.str (sOf l) = V.str (Str.ofString ""))) = true := by
              rw [decide_eq_false]
              · rfl
              · intro z
                have z2 : sOf l = sOf [] := V.str.inj z
                exact hl0 (sOf_inj z2)
            rw [ne0]
            refine ⟨_, rfl, l, rfl, by omega, ?_⟩
            cases hless : lawLess l with
            | none =>
              refine ⟨_, rfl, rfl, _, rfl, ?_⟩
              refine q0 H2 (sameOf ke2) ?_
              rw [lawW_eq]
              refine fold_take _ (rowL_none ns) ls12 _ (i + 1) ?_
              rw [row1]
              refine fold_take _ (stepL_none ns (i + 1)) _ _ (j + 1) ?_
              have fst3 := fst2
              rw [e2] at fst3
              have e3 : stepL ns (i + 1) (some (f, l)) j = none := stepL_bad en ((if_neg hl0).trans hless)
              rw [e3] at fst3
              exact fst3
            | some bb =>
              have lb := lawLess_len hless
              refine ⟨_, rfl, rfl, _, rfl, ?_⟩
              refine ⟨_, rfl, _, rfl, _, rfl, _, rfl, (by rw [sOf_len]; exact sz (by omega)), _, _, rfl, rfl, 49, _, rfl, rfl, ⟨by rw [sOf_len]; omega, by rw [sOf_len]; omega⟩, _, _, rfl, rfl, ?_, ?_⟩
              · rw [sOf_len, sOf_len, List.length_replicate]
                exact sz (by omega)
              refine ⟨_, rfl, _, rfl, _, rfl, q, _, _, j, rfl, rfl, hq2, (by rw [Int.zero_add]; exact Evl.ixN_nat (by rw [List.length_map]; omega)), ?_⟩
              have ec : sOf bb ++ sOf (List.replicate ((1 + (i : Int)) - ((sOf bb).length : Int)).toNat 49) = sOf (bb ++ List.replicate (i + 1 - (bb).length) 49) := by
                rw [sOf_app, sOf_len, show ((1 + (i : Int)) - ((bb).length : Int)).toNat = i + 1 - (bb).length by omega]
              refine ⟨f.set j (bb ++ List.replicate (i + 1 - (bb).length) 49), bb ++ List.replicate (i + 1 - (bb).length) 49, some (.int (0 + (j : Int))), ?_, ?_, ?_, ?_, ?_, fun b u nb hb => by rw [upd_ne nb]; exact ke2 b u nb hb⟩
              · rw [← ec]
                rfl
              · rw [fst2, e2]
                exact stepL_yes en ((if_neg hl0).trans hless)
              · rw [upd_same]
                show some (HO.lst ((f.map sV).set j (V.str _))) = _
                rw [ec]
                show some (HO.lst ((f.map sV).set j (sV (bb ++ List.replicate (i + 1 - (bb).length) 49)))) = _
                rw [← List.map_set]
              · rw [List.length_append, List.length_replicate]
                omega
              · rw [List.length_set]
                exact lf
        · have en : ¬ ns.getD j 0 = i + 1 := fun z => e (decide_eq_true (by rw [z]; congr 1; omega))
          refine ⟨f, l, some (.int (0 + (j : Int))), rfl, ?_, hq2, ll, lf, ke2⟩
          rw [fst2, e2]
          exact stepL_no en
      · rintro σ H2 ⟨f, l, y4, rfl, e2, hq2, ll, lf, ke2⟩
        refine ⟨f, l, _, _, rfl, ?_, hq2, ll, lf, ke2⟩
        rw [row1]
        rw [List.take_of_length_le (by rw [List.length_range]; exact Nat.le_refl _)] at e2
        exact e2
    · rintro σ H1 ⟨f, l, y3, y4, rfl, e1, hq1, ll, lf, ke⟩
      refine ⟨_, rfl, ?_⟩
      refine qq q f l H1 ?_ fq (sameOf ke) hq1
      rw [lawW_eq]
      rw [List.take_of_length_le (by decide)] at e1
      exact e1

def spOnly (D : Addr) : Addr → Value → Option Addr → Sp := fun a cls d vs H Q _ => cls = .ref D ∧ d = none ∧ vs = [.ref a, .int 1] ∧ ∀ H', Same H H' → Q (.bl true) H'
theorem dp_bls {H : Hp} : ∀ bs : List Bool, DpAll K H (bs.map V.bl) (bs.map PyData.bool)
  | [] => .nil
  | b :: r => .cons (.bl b) (dp_bls r)
theorem ok_only {A : Ad} (T : Txt w K mg base A) : FnP P w K mg base 1 A.a_only A.d_only P_only (spOnly A.x_NoWords) := by
  refine fnP_of T.F_only sc_only (fun a cls d vs H Q E h => ?_) (fun cdv Ar outer s H vs Q p cls d hot hz hr h => ?_)
  · obtain ⟨_, _, rfl, _⟩ := h
    rfl
  · obtain ⟨rfl, rfl, rfl, q⟩ := h
    have hf : ∃ vs, p.2.data = .fields vs := hot.2.elim fun vs e => ⟨vs, e.1⟩
    have hc : HotC (cxH CX0 P w K mg base N_only (Str.ofString "_law_only") (defScope s_only) A.a_only cdv Ar outer s H E0 p) := ⟨p, ⟨hot.1, hot.2⟩, List.mem_singleton.mpr rfl⟩
    refine ⟨_, (pss_cons (ps_set (i := 2) sc_only.nd rfl (Or.inl rfl) (pe_lst (pa_cons (pe_callB (r := rIsE K A.x_NoWords p.1) (call_isPin (X := cxH CX0 P w K mg base N_only (Str.ofString "_law_only") (defScope s_only) A.a_only cdv Ar outer s H E0 p) T.xe (List.mem_singleton.mpr rfl) hz hf) (by rfl) T.z_isinstance (by decide +kernel) (pa_cons (pv 0) (pa_cons (pe_glob (v := .ref A.x_NoPage) (by rfl) T.xg_NoPage rfl) pa_nil))) (pa_cons (pe_callB (r := rIsE K A.x_NoWords p.1) (call_isPin (X := cxH CX0 P w K mg base N_only (Str.ofString "_law_only") (defScope s_only) A.a_only cdv Ar outer s H E0 p) T.xe (List.mem_singleton.mpr rfl) hz hf) (by rfl) T.z_isinstance (by decide +kernel) (pa_cons (pv 0) (pa_cons (pe_glob (v := .ref A.x_NoWords) (by rfl) T.xg_NoWords rfl) pa_nil))) (pa_cons (pe_callB (r := rIsE K A.x_NoWords p.1) (call_isPin (X := cxH CX0 P w K mg base N_only (Str.ofString "_law_only") (defScope s_only) A.a_only cdv Ar outer s H E0 p) T.xe (List.mem_singleton.mpr rfl) hz hf) (by rfl) T.z_isinstance (by decide +kernel) (pa_cons (pv 0) (pa_cons (pe_glob (v := .ref A.x_NoTelling) (by rfl) T.xg_NoTelling rfl) pa_nil))) (pa_cons (pe_callB (r := rIsE K A.x_NoWords p.1) (call_isPin (X := cxH CX0 P w K mg base N_only (Str.ofString "_law_only") (defScope s_only) A.a_only cdv Ar outer s H E0 p) T.xe (List.mem_singleton.mpr rfl) hz hf) (by rfl) T.z_isinstance (by decide +kernel) (pa_cons (pv 0) (pa_cons (pe_glob (v := .ref A.x_NoFrame) (by rfl) T.xg_NoFrame rfl) pa_nil))) pa_nil))))))
      (pss_cons (ps_set (i := 2) sc_only.nd rfl (Or.inl rfl) (pe_op op_cat (pv 2) (pe_lst (pa_cons (pe_callB (r := rIsE K A.x_NoWords p.1) (call_isPin (X := cxH CX0 P w K mg base N_only (Str.ofString "_law_only") (defScope s_only) A.a_only cdv Ar outer s H E0 p) T.xe (List.mem_singleton.mpr rfl) hz hf) (by rfl) T.z_isinstance (by decide +kernel) (pa_cons (pv 0) (pa_cons (pe_glob (v := .ref A.x_NoPiece) (by rfl) T.xg_NoPiece rfl) pa_nil))) (pa_cons (pe_callB (r := rIsE K A.x_NoWords p.1) (call_isPin (X := cxH CX0 P w K mg base N_only (Str.ofString "_law_only") (defScope s_only) A.a_only cdv Ar outer s H E0 p) T.xe (List.mem_singleton.mpr rfl) hz hf) (by rfl) T.z_isinstance (by decide +kernel) (pa_cons (pv 0) (pa_cons (pe_glob (v := .ref A.x_NoName) (by rfl) T.xg_NoName rfl) pa_nil))) (pa_cons (pe_callB (r := rIsE K A.x_NoWords p.1) (call_isPin (X := cxH CX0 P w K mg base N_only (Str.ofString "_law_only") (defScope s_only) A.a_only cdv Ar outer s H E0 p) T.xe (List.mem_singleton.mpr rfl) hz hf) (by rfl) T.z_isinstance (by decide +kernel) (pa_cons (pv 0) (pa_cons (pe_glob (v := .ref A.x_NoEnds) (by rfl) T.xg_NoEnds rfl) pa_nil))) (pa_cons (pe_callB (r := rIsE K A.x_NoWords p.1) (call_isPin (X := cxH CX0 P w K mg base N_only (Str.ofString "_law_only") (defScope s_only) A.a_only cdv Ar outer s H E0 p) T.xe (List.mem_singleton.mpr rfl) hz hf) (by rfl) T.z_isinstance (by decide +kernel) (pa_cons (pv 0) (pa_cons (pe_glob (v := .ref A.x_NoCall) (by rfl) T.xg_NoCall rfl) pa_nil))) pa_nil)))))))
      (pss_cons (ps_set (i := 2) sc_only.nd rfl (Or.inl rfl) (pe_op op_cat (pv 2) (pe_lst (pa_cons (pe_callB (r := rIsE K A.x_NoWords p.1) (call_isPin (X := cxH CX0 P w K mg base N_only (Str.ofString "_law_only") (defScope s_only) A.a_only cdv Ar outer s H E0 p) T.xe (List.mem_singleton.mpr rfl) hz hf) (by rfl) T.z_isinstance (by decide +kernel) (pa_cons (pv 0) (pa_cons (pe_glob (v := .ref A.x_NoSaying) (by rfl) T.xg_NoSaying rfl) pa_nil))) pa_nil))))
      (pss_one (ps_ret (pe_and (pe_callB (r := rIsE K A.x_NoWords p.1) (call_isPin (X := cxH CX0 P w K mg base N_only (Str.ofString "_law_only") (defScope s_only) A.a_only cdv Ar outer s H E0 p) T.xe (List.mem_singleton.mpr rfl) hz hf) (by rfl) T.z_isinstance (by decide +kernel) (pa_cons (pv 0) (pa_cons (pe_glob (v := .ref A.x_FarError) (by rfl) T.xg_FarError rfl) pa_nil))) (pe_and (pe_callB (r := rIsE K A.x_NoWords p.1) (call_isPin (X := cxH CX0 P w K mg base N_only (Str.ofString "_law_only") (defScope s_only) A.a_only cdv Ar outer s H E0 p) T.xe (List.mem_singleton.mpr rfl) hz hf) (by rfl) T.z_isinstance (by decide +kernel) (pa_cons (pv 0) (pa_cons (pe_bltn (v := .ty "ValueError") (by rfl) T.z_ValueError (by decide +kernel) rfl) pa_nil))) (pe_one (pe_cmpR (op_eqD hr.units) (pv 2) (pe_lcHot (own := [("_law_k", 3)]) (g := gName 3) hc sc_only.nd (pi_range1H (by rfl) T.z_range (pa_cons pe_int pa_nil)) (blkOk_by (own := [("_law_k", 3)]) (N := N_only) (sc := defScope s_only) (by decide +kernel)) (fun _ _ _ _ _ => pg_name (i := 3) sc_only.nd rfl (Or.inl rfl)) (fun _ _ _ _ _ => (pe_cmpR op_eq (pv 1) (pv 3) (nomark _)))) (nomark _)))))))))), ?_⟩
    refine ⟨_, rfl, _, .ref _, false, rfl, (fun u h => h), T.ki_NoPage, _, rfl, _, .ref _, true, rfl, (fun u h => h), T.ki_NoWords, _, rfl, _, .ref _, false, rfl, (fun u h => h), T.ki_NoTelling, _, rfl, _, .ref _, false, rfl, (fun u h => h), T.ki_NoFrame, (by show 4 ≤ sizeLine; decide), fun p1 hp1 => ?_⟩
    refine ⟨_, rfl, _, rfl, _, .ref _, false, rfl, (fun u h => h), T.ki_NoPiece, _, rfl, _, .ref _, false, rfl, (fun u h => h), T.ki_NoName, _, rfl, _, .ref _, false, rfl, (fun u h => h), T.ki_NoEnds, _, rfl, _, .ref _, false, rfl, (fun u h => h), T.ki_NoCall, (by show 4 ≤ sizeLine; decide), fun p2 hp2 => ?_⟩
    refine ⟨_, _, _, _, rfl, rfl, (by rw [upd_ne (ne_of_none upd_same hp2)]; exact upd_same), upd_same, (by show 8 ≤ sizeLine; decide), fun p3 hp3 => ?_⟩
    refine ⟨_, rfl, _, rfl, _, .ref _, false, rfl, (fun u h => h), T.ki_NoSaying, (by show 1 ≤ sizeLine; decide), fun p4 hp4 => ?_⟩
    refine ⟨_, _, _, _, rfl, rfl, (by rw [upd_ne (ne_of_none upd_same hp4)]; exact upd_same), upd_same, (by show 9 ≤ sizeLine; decide), fun p5 hp5 => ?_⟩
    refine ⟨_, rfl, _, .ref _, true, rfl, (fun u h => h), T.ki_FarError, _, rfl, ?_⟩
    refine ⟨_, rfl, _, .type "ValueError", true, rfl, (fun u h => h), T.kv, _, rfl, ?_⟩
    have sA : Same H _ := ((((same_new (o := .lst [.bl false, .bl true, .bl false, .bl false]) hp1).trans (same_new (o := .lst [.bl false, .bl false, .bl false, .bl false]) hp2)).trans (same_new (o := .lst [.bl false, .bl true, .bl false, .bl false, .bl false, .bl false, .bl false, .bl false]) hp3)).trans (same_new (o := .lst [.bl false]) hp4)).trans (same_new (o := .lst [.bl false, .bl true, .bl false, .bl false, .bl false, .bl false, .bl false, .bl false, .bl false]) hp5)
    refine ⟨_, rfl, _, rfl, by decide, by decide, fun D hD => lc_range (lo := 0) (n := 9) (fun i H' => Same (upd _ p5 _) H' ∧ H' D = some (.lst ((List.range i).map fun (k : Nat) => V.bl (decide (k = 1))))) ⟨same_new hD, upd_same⟩ ?_ ?_⟩
    · rintro i H1 hi ⟨sm, hD1⟩
      refine ⟨rfl, _, rfl, _, rfl, rfl, _, hD1, ?_, Same.mut sm hD, ?_⟩
      · rw [List.length_map, List.length_range]
        exact szl (by omega)
      · rw [upd_same, range_more]
        have e : decide (V.int 1 = V.int (0 + (i : Int))) = decide (i = 1) := decide_eq_decide.mpr ⟨fun h => by have := V.int.inj h; omega, fun h => by rw [h]; rfl⟩
        rw [e]
    · rintro H1 ⟨sm, hD1⟩
      refine ⟨_, _, .lst (SqL.of (sm _ _ upd_same)) (dp_bls [false, true, false, false, false, false, false, false, false]), .lst (SqL.of hD1) (dp_bls [false, true, false, false, false, false, false, false, false]), (by decide +kernel), (by decide +kernel), ?_⟩
      rw [show PyData.eqv (.list ([false, true, false, false, false, false, false, false, false].map PyData.bool)) (.list ([false, true, false, false, false, false, false, false, false].map PyData.bool)) = true by decide +kernel]
      exact q H1 (sA.trans sm)
def iD (ns : List Nat) : List PyData := ns.map fun (n : Nat) => PyData.int (n : Int)
theorem dp_ints {H : Hp} : ∀ ns : List Nat, DpAll K H (nvs ns) (iD ns)
  | [] => .nil
  | n :: r => .cons (.int _) (dp_ints r)
theorem lay_ints : ∀ ns : List Nat, PyData.canLayAll0 (iD ns) = true
  | [] => by simp [iD, PyData.canLayAll0]
  | n :: r => by
    have h := lay_ints r
    unfold iD at h ⊢
    simp only [List.map_cons, PyData.canLayAll0, PyData.canLay0, h, Bool.and_true]
theorem depth_ints : ∀ ns : List Nat, PyData.depthAll (iD ns) = 0
  | [] => by simp [iD, PyData.depthAll]
  | n :: r => by
    have h := depth_ints r
    unfold iD at h ⊢
    simp only [List.map_cons, PyData.depthAll, h, PyData.depth]
    rfl
theorem shaped_ints (ns : List Nat) : SeqAt.shaped (.list (iD ns)) = true := by
  show (PyData.canLay0 (.list (iD ns)) && decide (PyData.depth (.list (iD ns)) ≤ 64)) = true
  rw [Bool.and_eq_true]
  refine ⟨by simp only [PyData.canLay0]; exact lay_ints ns, decide_eq_true ?_⟩
  simp only [PyData.depth, depth_ints]
  omega
theorem eqv_ints (ns : List Nat) : PyData.eqv (.list (iD ns)) (.list (iD ns)) = true := SeqAt.eqv_refl _ (by simp only [PyData.canLay0]; exact lay_ints ns)
theorem words_codes {ns : List Nat} (hn : ∀ n ∈ ns, 1 ≤ n ∧ n ≤ 12) (ok : okN ns = true) : ∀ r ∈ wordsOf ns, Codes r := fun r hr => by
  obtain ⟨_, lw, each, _⟩ := (words_whole fun n h => (hn n h).2).2 ok
  obtain ⟨k, hk, e⟩ := List.mem_iff_getElem.mp hr
  have h1 := (each k (by omega)).1
  rw [List.getD_eq_getElem?_getD, List.getElem?_eq_getElem hk] at h1
  intro c hc
  rw [← e] at hc
  rcases h1 c hc with z | z <;> rw [z] <;> decide
theorem law_none {ns : List Nat} (hn : ∀ n ∈ ns, 1 ≤ n ∧ n ≤ 12) (h : lawW ns = none) : okN ns = false := by
  cases e : okN ns with
  | false => rfl
  | true =>
    obtain ⟨l, h2⟩ := (lawW_words hn).1 e
    rw [h] at h2
    cases h2
theorem law_some {ns : List Nat} {W : List (List Nat)} {l : List Nat} (hn : ∀ n ∈ ns, 1 ≤ n ∧ n ≤ 12) (h : lawW ns = some (W, l)) : okN ns = true ∧ W = wordsOf ns := by
  cases e : okN ns with
  | false =>
    rw [(lawW_words hn).2 e] at h
    cases h
  | true =>
    obtain ⟨l2, h2⟩ := (lawW_words hn).1 e
    rw [h] at h2
    cases h2
    exact ⟨rfl, rfl⟩
theorem tabs_but2 {T : List (Addr × Str)} {H H' : Hp} {q r : Addr} {xs ys : List V} (h : LamX.Tabs T H) (hq : H q = some (.lst xs)) (hr : H r = some (.lst ys)) (e : ∀ b o, b ≠ q → b ≠ r → H b = some o → H' b = some o) : LamX.Tabs T H' := by
  have t1 : LamX.Tabs T (fun b => if b = q then H q else H' b) := tabs_but (q := r) h hr fun b o n z => by
    by_cases c : b = q
    · show (if b = q then H q else H' b) = some o
      rw [if_pos c, ← c]
      exact z
    · show (if b = q then H q else H' b) = some o
      rw [if_neg c]
      exact e b o c n z
  refine tabs_but (q := q) (xs := xs) t1 (by show (if q = q then H q else H' q) = _; rw [if_pos rfl]; exact hq) fun b o n z => ?_
  have z : (if b = q then H q else H' b) = some o := z
  rw [if_neg n] at z
  exact z
theorem list_yes : PySem.W.kitOne K (.type "list") (.type "list") = some true := kit_ty (by decide +kernel)
def spGood (p : Addr) : Sp := fun vs H Q _ => ∃ (a : Addr) (ns : List Nat), vs = [.ref a] ∧ LamX.Tabs (TT p) H ∧ H a = some (.lst (nvs ns)) ∧ 1 ≤ ns.length ∧ ns.length ≤ 100 ∧ (∀ n ∈ ns, 1 ≤ n ∧ n ≤ 12) ∧ ∀ H', LamX.ExtN H H' → LamX.Tabs (TT p) H' → Q (.bl true) H'
theorem ok_good {A : Ad} (T : Txt w K mg base A) : FnOk P w K mg base CX0 3 A.a_good A.d_good P_good (spGood A.p_making_order) := by
  have G_words := ok_words (P := P) (w := w) (base := base) T
  have G_words_by := ok_words_by (P := P) (w := w) (base := base) T
  have G_only := ok_only (P := P) (w := w) (base := base) T
  refine T.F_good.ok sc_good (fun vs H Q E h => ?_) (fun cdv Ar outer s H vs Q E hr h => ?_)
  · obtain ⟨a, ns, rfl, _⟩ := h
    rfl
  · obtain ⟨a, ns, rfl, hT, ha, l1, ln, hn, q⟩ := h
    refine ⟨_, (pss_cons (ps_set (i := 1) sc_good.nd rfl (Or.inl rfl) (pe_callTy call_list_of (by rfl) T.z_list (by decide +kernel) (pa_cons (pv 0) pa_nil)))
      (pss_cons (ps_set (i := 2) sc_good.nd rfl (Or.inl rfl) (pe_call G_words (hr.mono (by decide)) (by rfl) T.g_words T.F_words.kp T.b_words .nil pass0 (pa_cons (pv 0) pa_nil)))
      (pss_cons (L2N.ps_try_as (i := 4) (Wout := fun _ _ _ _ => False) rfl rfl sc_good.nd rfl rfl ⟨rfl, by decide, Or.inl T.xg_FarError⟩ Fp.takes0N (fun W pn xe tk _ => (pss_one (ps_set (i := 3) sc_good.nd rfl (Or.inl rfl) (pe_callS G_words_by (hr.mono (by decide)) (by rfl) T.g_words_by T.F_words_by.kp T.b_words_by (fun σ => L2N.passAt tk σ) (pa_cons (pv 1) pa_nil))))) (fun a oe cls d pn hz hf => (pss_one (ps_ret (pe_and (pe_cmpR op_isN (pv 2) pe_non (nomark _)) (pe_and (pe_callE (a := a) (oe := oe) G_only (roomH_mark (j := 1) hr (by decide)) (List.mem_cons_self ..) ⟨rfl, hf.elim fun vs e => ⟨vs, e, hz.2.2 vs e⟩⟩ hz.zc (by rfl) T.g_only T.F_only.kp T.b_only (pa_cons (pv 4) (pa_cons pe_int pa_nil))) (pe_one (pe_cmpR (r := rEqD K) (op_eqD hr.units) (pv 1) (pv 0) (nomark _)))))))))
      (pss_cons (ps_if (PW.pt (pw_or (pt_cmpR op_isN (pv 2) pe_non (nomark _)) (pw_or (pt_not (pt_val (pe_callB (r := rIsi K) call_isi (by rfl) T.z_isinstance (by decide +kernel) (pa_cons (pv 3) (pa_cons (pe_bltn (v := .ty "list") (by rfl) T.z_list (by decide +kernel) rfl) pa_nil))))) (pw_or (pt_cmpR (op_neD hr.units) (pv 3) (pv 2) (nomark _)) (pw_or1 (pt_cmpR (op_neD hr.units) (pv 1) (pv 0) (nomark _)))))))
      (pss_one (ps_ret pe_bl)) pss_nil)
      (pss_cons (ps_expr (pe_bm PySem.F.plainAttrs_list PySem.F.slot_list_append PySem.F.type_list_append mt_append (pv 3) (pa_cons pe_str pa_nil)))
      (pss_cons (ps_asg pe_str (pg_sub (pv 3) pe_int set_list))
      (pss_cons (ps_expr (pe_bm PySem.F.plainAttrs_list PySem.F.slot_list_append PySem.F.type_list_append mt_append (pv 1) (pa_cons pe_int pa_nil)))
      (pss_one (ps_ret (pe_cmpR (op_eqD hr.units) (pe_callS G_words_by (hr.mono (by decide)) (by rfl) T.g_words_by T.F_words_by.kp T.b_words_by (fun σ => L2N.passAt Fp.takes0N σ) (pa_cons (pe_callTy call_list_of (by rfl) T.z_list (by decide +kernel) (pa_cons (pv 0) pa_nil)) pa_nil)) (pv 2) (nomark _))))))))))), ?_⟩
    have hn2 : ∀ n ∈ ns, n ≤ 12 := fun n h => (hn n h).2
    refine ⟨_, rfl, a, _, rfl, .inl (SqL.of ha), fun hd hhd => ?_⟩
    have s1 : Same H (upd H hd (.lst (nvs ns))) := same_new hhd
    have nah : a ≠ hd := ne_of_none ha hhd
    refine ⟨_, rfl, a, ns, rfl, s1 _ _ ha, ln, hn2, fun H2 s2 e => ?_, fun du W l H2 e fdu s2 hdu => ?_⟩
    · have ok := law_none hn e
      have T2 := tabs_same (tabs_same hT s1) s2
      have hh2 := s2 _ _ (upd_same (H := H) (a := hd) (o := .lst (nvs ns)))
      refine ⟨_, rfl, hd, ns, rfl, T2, hh2, ln, hn2, fun _ H3 eN T3 => ?_, fun z => by rw [ok] at z; cases z⟩
      refine ⟨true, T.xm_FarError, fun _ e0 he0 => ?_, fun z => nomatch z⟩
      refine ⟨_, rfl, rfl, _, rfl, ?_⟩
      rw [decide_eq_true rfl]
      refine ⟨_, rfl, rfl, rfl, rfl, fun H4 s4 => ⟨_, rfl, ?_⟩⟩
      have h4h : H4 hd = some (.lst (nvs ns)) := s4 _ _ (eN _ _ hh2 (fun ps z => by cases z))
      have h4a : H4 a = some (.lst (nvs ns)) := s4 _ _ (eN _ _ (s2 _ _ (s1 _ _ ha)) (fun ps z => by cases z))
      refine ⟨_, rfl, _, rfl, _, _, .lst (SqL.of h4h) (dp_ints ns), .lst (SqL.of h4a) (dp_ints ns), shaped_ints ns, shaped_ints ns, ?_⟩
      rw [eqv_ints]
      exact q H4 (((extN_of (s1.trans s2)).trans eN).trans (extN_of s4)) (tabs_same T3 s4)
    · obtain ⟨ok, rfl⟩ := law_some hn e
      have T2 := tabs_same (tabs_same hT s1) s2
      have hh2 := s2 _ _ (upd_same (H := H) (a := hd) (o := .lst (nvs ns)))
      have ha2 := s2 _ _ (s1 _ _ ha)
      have C := words_codes hn ok
      obtain ⟨_, lw, _, _⟩ := (words_whole hn2).2 ok
      refine ⟨_, rfl, hd, ns, rfl, T2, hh2, ln, hn2, fun z => (by rw [ok] at z; cases z), fun _ fo H3 eN T3 ffo hfo => ?_⟩
      have nhf : hd ≠ fo := ne_of_none hh2 ffo
      have ndf : du ≠ fo := ne_of_none hdu ffo
      have naf : a ≠ fo := ne_of_none ha2 ffo
      have ndh : du ≠ hd := (ne_of_none (upd_same (H := H) (a := hd) (o := .lst (nvs ns))) fdu).symm
      have hh3 : H3 hd = some (.lst (nvs ns)) := eN _ _ hh2 (fun ps z => by cases z)
      have hd3 : H3 du = some (.lst ((wordsOf ns).map sV)) := eN _ _ hdu (fun ps z => by cases z)
      have ha3 : H3 a = some (.lst (nvs ns)) := eN _ _ ha2 (fun ps z => by cases z)
      refine ⟨_, rfl, rfl, _, rfl, ?_⟩
      rw [show decide (V.ref du = V.non) = false from decide_eq_false (fun z => by cases z)]
      refine ⟨_, rfl, _, _, _, _, true, rfl, ClsV.ty _, TyX.base (.lst hfo), list_yes, _, rfl, ?_⟩
      refine ⟨_, rfl, _, rfl, _, _, .lst (SqL.of hfo) (dp_rows _), .lst (SqL.of hd3) (dp_rows _), shaped_lst C, shaped_lst C, _, rfl, ?_⟩
      rw [eqv_lst C]
      refine ⟨_, rfl, _, rfl, _, _, .lst (SqL.of hh3) (dp_ints ns), .lst (SqL.of ha3) (dp_ints ns), shaped_ints ns, shaped_ints ns, _, rfl, ?_⟩
      rw [eqv_ints]
      have wl : ((wordsOf ns).map sV).length = ns.length := by rw [List.length_map, lw]
      refine ⟨_, rfl, .inl ⟨rfl, _, SqL.of hfo⟩, fo, _, _, rfl, rfl, hfo, by rw [wl]; exact szl (by omega), ?_⟩
      refine ⟨_, rfl, fo, _, _, 0, rfl, rfl, upd_same, Evl.ixN_nat (j := 0) (by rw [List.length_append, wl]; omega), ?_⟩
      refine ⟨_, rfl, .inl ⟨rfl, _, SqL.of (by rw [upd_ne nhf, upd_ne nhf]; exact hh3)⟩, hd, _, _, rfl, rfl, (by rw [upd_ne nhf, upd_ne nhf]; exact hh3), by rw [nvs_len]; exact szl (by omega), ?_⟩
      generalize hH6 : upd (upd (upd H3 fo _) fo _) hd _ = H6
      have keep : ∀ b o, b ≠ fo → b ≠ hd → H3 b = some o → H6 b = some o := fun b o n1 n2 z => by
        rw [← hH6, upd_ne n2, upd_ne n1, upd_ne n1]
        exact z
      have T6 : LamX.Tabs (TT A.p_making_order) H6 := tabs_but2 (q := fo) (r := hd) T3 hfo hh3 keep
      have ha6 := keep _ _ naf nah ha3
      have hd6 := keep _ _ ndf ndh hd3
      refine ⟨_, rfl, a, _, rfl, .inl (SqL.of ha6), fun h7 hh7 => ?_⟩
      have s7 : Same H6 (upd H6 h7 (.lst (nvs ns))) := same_new hh7
      refine ⟨h7, ns, rfl, tabs_same T6 s7, upd_same, ln, hn2, fun z => (by rw [ok] at z; cases z), fun _ f8 H8 eN8 T8 _ hf8 => ?_⟩
      have hd8 : H8 du = some (.lst ((wordsOf ns).map sV)) := eN8 _ _ (s7 _ _ hd6) (fun ps z => by cases z)
      refine ⟨_, rfl, _, _, .lst (SqL.of hf8) (dp_rows _), .lst (SqL.of hd8) (dp_rows _), shaped_lst C, shaped_lst C, ?_⟩
      rw [eqv_lst C]
      refine q H8 (fun b o hb nt => ?_) T8
      have h2 := s2 _ _ (s1 _ _ hb)
      exact eN8 _ _ (s7 _ _ (keep _ _ (ne_of_none h2 ffo) (ne_of_none hb hhd) (eN _ _ h2 nt))) nt
theorem cut_nvs (ns : List Nat) (hi : Int) (h : 0 ≤ hi) : cutV (nvs ns) none (some hi) = nvs (ns.take hi.toNat) := by
  obtain ⟨k, rfl⟩ := Int.eq_ofNat_of_zero_le h
  unfold cutV
  rw [HT.sIx_nat, HT.sIx_none]
  show ((nvs ns).drop 0).take (min k (nvs ns).length - 0) = nvs (ns.take k)
  rw [List.drop_zero, Nat.sub_zero]
  have e : nvs (ns.take k) = (nvs ns).take k := by
    unfold nvs iv
    rw [List.map_take, List.map_take]
  rw [e]
  by_cases c : k ≤ (nvs ns).length
  · rw [Nat.min_eq_left c]
  · rw [Nat.min_eq_right (by omega), List.take_length, List.take_of_length_le (by omega)]
theorem extN_seq {H H' : Hp} {a : Addr} {xs : List V} (e : LamX.ExtN H H') (h : SqL K H a xs) : SqL K H' a xs := by
  rcases h with (h | ⟨o, h⟩) | h
  · exact .inl (.inl (e _ _ h (fun ps z => by cases z)))
  · exact .inl (.inr ⟨o, e _ _ h (fun ps z => by cases z)⟩)
  · exact .inr h
def spLaw (K : PySem.W.Frag) (p : Addr) : Sp := fun vs H Q _ => ∃ (a : Addr) (ns : List Int), vs = [.ref a] ∧ SqL K H a (ns.map V.int) ∧ ns.length ≤ 63 ∧ H p = some (.tbl #[]) ∧ ∀ H', Q (.bl true) H'
theorem ok_law {A : Ad} (T : Txt w K mg base A) : FnOk P w K mg base CX0 4 A.a_law A.d_law P_law (spLaw K A.p_making_order) := by
  have G_bag := ok_bag (P := P) (w := w) (base := base) T
  have G_lengths := ok_lengths (P := P) (w := w) (base := base) T
  have G_good := ok_good (P := P) (w := w) (base := base) T
  have G_draw := ok_draw (P := P) (w := w) (base := base) T
  refine T.F_law.ok sc_law (fun vs H Q E h => ?_) (fun cdv Ar outer s H vs Q E hr h => ?_)
  · obtain ⟨a, ns, rfl, _⟩ := h
    rfl
  · obtain ⟨a, ns, rfl, hS, ln, hP, q⟩ := h
    refine ⟨_, (pss_cons (ps_for PassesOwn.never rfl (pi_range1 (by rfl) T.z_range (pa_cons (pe_callB (call_max2 rfl) (by rfl) T.z_max (by decide +kernel) (pa_cons pe_int (pa_cons (pe_callB (call_min2 rfl) (by rfl) T.z_min (by decide +kernel) (pa_cons pe_int (pa_cons (pe_callB (r := fun xs H Q => ∃ p ys, xs = [.ref p] ∧ (SqL K H p ys ∨ SqT K H p ys) ∧ Q (.int ys.length) H) call_len_seq (by rfl) T.z_len PySem.boot_len (pa_cons (pv 0) pa_nil)) pa_nil))) pa_nil))) pa_nil)) (pg_name (i := 1) sc_law.nd rfl (Or.inl rfl))
      (pss_cons (ps_set (i := 2) sc_law.nd rfl (Or.inl rfl) (pe_call G_bag (hr.mono (by decide)) (by rfl) T.g_bag T.F_bag.kp T.b_bag .nil pass0 (pa_cons (pv 0) (pa_cons (pv 1) pa_nil))))
      (pss_cons (ps_set (i := 3) sc_law.nd rfl (Or.inl rfl) (pe_call G_lengths (hr.mono (by decide)) (by rfl) T.g_lengths T.F_lengths.kp T.b_lengths .nil pass0 (pa_cons (pv 2) pa_nil)))
      (pss_one (ps_if (PW.pt (pw_or (pt_not (pt_val (pe_call G_good (hr.mono (by decide)) (by rfl) T.g_good T.F_good.kp T.b_good .nil pass0 (pa_cons (pv 3) pa_nil)))) (pw_or1 (pt_not (pt_val (pe_call G_good (hr.mono (by decide)) (by rfl) T.g_good T.F_good.kp T.b_good .nil pass0 (pa_cons (pe_slice sl_list (pv 3) po_none (po_some (pe_op op_add pe_int (pe_call G_draw (hr.mono (by decide)) (by rfl) T.g_draw T.F_draw.kp T.b_draw .nil pass0 (pa_cons (pv 2) (pa_cons (pe_callB (r := fun xs H Q => ∃ p ys, xs = [.ref p] ∧ (SqL K H p ys ∨ SqT K H p ys) ∧ Q (.int ys.length) H) call_len_seq (by rfl) T.z_len PySem.boot_len (pa_cons (pv 3) pa_nil)) pa_nil)))))) pa_nil)))))))
      (pss_one (ps_ret pe_bl)) pss_nil)))))
      (pss_one (ps_ret (pe_and (pe_call G_good (hr.mono (by decide)) (by rfl) T.g_good T.F_good.kp T.b_good .nil pass0 (pa_cons (pe_lst (pa_cons pe_int (pa_cons pe_int pa_nil))) pa_nil)) (pe_and (pe_call G_good (hr.mono (by decide)) (by rfl) T.g_good T.F_good.kp T.b_good .nil pass0 (pa_cons (pe_lst (pa_cons pe_int (pa_cons pe_int (pa_cons pe_int pa_nil)))) pa_nil)) (pe_one (pe_call G_good (hr.mono (by decide)) (by rfl) T.g_good T.F_good.kp T.b_good .nil pass0 (pa_cons (pe_op op_rep (pe_lst (pa_cons pe_int pa_nil)) pe_int) pa_nil)))))))), ?_⟩
    refine ⟨_, rfl, a, _, rfl, .inl hS, _, _, rfl, _, _, rfl, _, rfl, ?_, ?_, for_range (fun i σ H' => ∃ (y1 y2 y3 : Option V), σ = [some (.ref a), y1, y2, y3] ∧ LamX.ExtN H H' ∧ LamX.Tabs (TT A.p_making_order) H')
      ⟨none, none, none, rfl, LamX.ExtN.refl _, ?_⟩ ?_ ?_⟩
    · rw [List.length_map]
      split <;> split <;> omega
    · rw [List.length_map]
      split <;> split <;> omega
    · intro z hz
      rw [List.mem_singleton.mp hz]
      exact LamX.TabS.nil hP
    · rintro i σ H1 hi ⟨y1, y2, y3, rfl, eN1, T1⟩
      have hi8 : i < 64 := by
        rw [List.length_map] at hi
        revert hi
        split <;> split <;> omega
      refine ⟨_, rfl, _, rfl, a, ns, _, rfl, extN_seq eN1 hS, by omega, by omega, fun b g s hb g0 s0' s1' => ?_⟩
      refine ⟨_, rfl, b, rfl, BagAt.new g0 s0' s1', fun lq ls H2 l1 l40 n12 bx fq hq => ?_⟩
      have s12 : Same H1 H2 := bx.back (same_new hb) hb
      have T2 := tabs_same T1 s12
      have nlb : lq ≠ b := (ne_of_none (upd_same (H := H1) (a := b) (o := .lst [.int g, .int s])) fq).symm
      refine ⟨_, rfl, lq, ls, rfl, T2, hq, l1, by omega, n12, fun H3 eN3 T3 => ?_⟩
      have hq3 : H3 lq = some (.lst (nvs ls)) := eN3 _ _ hq (fun ps z => by cases z)
      have b3 : BagAt H3 b := by
        obtain ⟨g2, t2, e2, r2⟩ := bx.1
        exact ⟨g2, t2, eN3 _ _ e2 (fun ps z => by cases z), r2⟩
      refine ⟨_, rfl, ?_⟩
      refine ⟨_, rfl, _, rfl, _, rfl, lq, _, rfl, .inl (SqL.of hq3), b, _, rfl, b3, by rw [nvs_len]; omega, by rw [nvs_len]; omega, fun dd H4 d0 d1 bx4 => ?_⟩
      have hq4 := bx4.2 _ _ nlb hq3
      rw [nvs_len] at d1
      refine ⟨_, _, rfl, rfl, _, rfl, _, _, rfl, SqL.of hq4, fun p5 hp5 => ?_⟩
      rw [cut_nvs ls (1 + dd) (by omega)]
      have T4 : LamX.Tabs (TT A.p_making_order) H4 := by
        obtain ⟨g2, t2, e2, r2⟩ := b3
        exact tabs_but (q := b) T3 e2 (fun c o n z => bx4.2 c o n z)
      have s5 : Same H4 (upd H4 p5 (.lst (nvs (ls.take (1 + dd).toNat)))) := same_new hp5
      have lt : (ls.take (1 + dd).toNat).length = (1 + dd).toNat := by
        rw [List.length_take]
        omega
      refine ⟨p5, ls.take (1 + dd).toNat, rfl, tabs_same T4 s5, upd_same, by omega, by omega, fun n hh => n12 n (List.mem_of_mem_take hh), fun H6 eN6 T6 => ?_⟩
      refine ⟨_, rfl, ?_⟩
      refine ⟨_, _, _, rfl, fun c o hc nt => ?_, T6⟩
      have h1 := eN1 _ _ hc nt
      have ncb : c ≠ b := ne_of_none h1 hb
      exact eN6 _ _ (s5 _ _ (bx4.2 c o ncb (eN3 _ _ (s12 _ _ h1) nt))) nt
    · rintro σ H1 ⟨y1, y2, y3, rfl, eN1, T1⟩
      refine ⟨(by show 2 ≤ sizeLine; decide), fun p1 hp1 => ?_⟩
      refine ⟨p1, [1, 1], rfl, tabs_same T1 (same_new hp1), upd_same, by decide, by decide, by decide, fun H2 _ T2 => ?_⟩
      refine ⟨_, rfl, ?_⟩
      refine ⟨(by show 3 ≤ sizeLine; decide), fun p3 hp3 => ?_⟩
      refine ⟨p3, [1, 1, 12], rfl, tabs_same T2 (same_new hp3), upd_same, by decide, by decide, by decide, fun H4 _ T4 => ?_⟩
      refine ⟨_, rfl, ?_⟩
      refine ⟨(by show 1 ≤ sizeLine; decide), fun p5 hp5 => ?_⟩
      refine ⟨_, _, _, rfl, rfl, upd_same, by decide, by decide, (by show 1 * 40 ≤ sizeLine; decide), fun p6 hp6 => ?_⟩
      refine ⟨p6, List.replicate 40 12, rfl, tabs_same (tabs_same T4 (same_new hp5)) (same_new hp6), upd_same, by decide, by decide, by decide, fun H7 _ _ => ?_⟩
      exact q _
end
theorem all_mk {l : PySem.W.OpenLaw} {w : World} {K : PySem.W.Frag} {h : Heap} {mg : Str → Option Value} {fa : Addr} (X : K.In h) (G : h.Ns mainGlobals mg) (hfa : mg "law" = some (.ref fa))
    {f0 f1 f2 f3 f4 f5 f6 f7 f8 f9 f10 : Addr}
    {x_NoSaying : Addr}
    {x_NoCall : Addr}
    {x_NoEnds : Addr}
    {x_NoName : Addr}
    {x_NoPiece : Addr}
    {x_NoFrame : Addr}
    {x_NoTelling : Addr}
    {x_NoWords : Addr}
    {x_NoPage : Addr}
    {x_FarError : Addr}
    {od0 an0 od1 an1 od2 an2 od3 an3 od4 an4 od5 an5 od6 an6 od7 an7 od8 an8 od9 an9 od10 an10 : Option Addr}
    {sl0 sl1 sl2 sl3 sl4 sl5 sl6 sl7 sl8 sl9 sl10 : Array (Option Value)}
    {oc0 kV0 dc0 pm0 ct0 cd0 oc1 kV1 dc1 pm1 ct1 oc2 kV2 dc2 pm2 ct2 cd2 oc3 kV3 dc3 pm3 ct3 cd3 oc4 kV4 dc4 pm4 ct4 cd4 oc5 kV5 dc5 pm5 ct5 cd5 oc6 kV6 dc6 pm6 ct6 cd6 oc7 kV7 dc7 pm7 ct7 cd7 oc8 kV8 dc8 pm8 ct8 cd8 oc9 kV9 dc9 pm9 ct9 cd9 oc10 kV10 dc10 pm10 ct10 cd10 : Value}
    {k_making_order p_making_order : Addr}
    (a0 : PySem.W.nsIn K mainGlobals "words_by" = some (some (.ref f0))) (l0 : K.lookup f0 = some ⟨oc0, od0, .func (PySem.W.fnOf "words_by" "words_by" (defArgs s_words_by) (defBody s_words_by) (defScope s_words_by) .none kV0 dc0 pm0 an0 cd0 ct0), sl0⟩) (c0 : PySem.W.codeIn K cd0 "words_by" = true) (k0 : PySem.W.keepIn K (.ref f0) = true)
    (a1 : PySem.W.nsIn K mainGlobals "making_order" = some (some (.ref f1))) (l1 : K.lookup f1 = some ⟨oc1, od1, .func (PySem.W.fnOf "making_order" "making_order" (defArgs s_making_order) (defBody s_making_order) (defScope s_making_order) .none kV1 dc1 pm1 an1 (.ref k_making_order) ct1), sl1⟩) (c1 : PySem.W.codeIn K (.ref k_making_order) "making_order" = true) (k1 : PySem.W.keepIn K (.ref f1) = true)
    (hT_making_order : h.get? p_making_order = some (PySem.W.tabObj #[])) (hd_making_order : PySem.W.codeHdIn K k_making_order p_making_order = true) (nT_making_order : K.lookup p_making_order = none)
    (a2 : PySem.W.nsIn K mainGlobals "one_less" = some (some (.ref f2))) (l2 : K.lookup f2 = some ⟨oc2, od2, .func (PySem.W.fnOf "one_less" "one_less" (defArgs s_one_less) (defBody s_one_less) (defScope s_one_less) .none kV2 dc2 pm2 an2 cd2 ct2), sl2⟩) (c2 : PySem.W.codeIn K cd2 "one_less" = true) (k2 : PySem.W.keepIn K (.ref f2) = true)
    (a3 : PySem.W.nsIn K mainGlobals "_law_bag" = some (some (.ref f3))) (l3 : K.lookup f3 = some ⟨oc3, od3, .func (PySem.W.fnOf "_law_bag" "_law_bag" (defArgs s_bag) (defBody s_bag) (defScope s_bag) .none kV3 dc3 pm3 an3 cd3 ct3), sl3⟩) (c3 : PySem.W.codeIn K cd3 "_law_bag" = true) (k3 : PySem.W.keepIn K (.ref f3) = true)
    (a4 : PySem.W.nsIn K mainGlobals "_law_draw" = some (some (.ref f4))) (l4 : K.lookup f4 = some ⟨oc4, od4, .func (PySem.W.fnOf "_law_draw" "_law_draw" (defArgs s_draw) (defBody s_draw) (defScope s_draw) .none kV4 dc4 pm4 an4 cd4 ct4), sl4⟩) (c4 : PySem.W.codeIn K cd4 "_law_draw" = true) (k4 : PySem.W.keepIn K (.ref f4) = true)
    (a5 : PySem.W.nsIn K mainGlobals "_law_lengths" = some (some (.ref f5))) (l5 : K.lookup f5 = some ⟨oc5, od5, .func (PySem.W.fnOf "_law_lengths" "_law_lengths" (defArgs s_lengths) (defBody s_lengths) (defScope s_lengths) .none kV5 dc5 pm5 an5 cd5 ct5), sl5⟩) (c5 : PySem.W.codeIn K cd5 "_law_lengths" = true) (k5 : PySem.W.keepIn K (.ref f5) = true)
    (a6 : PySem.W.nsIn K mainGlobals "_law_less" = some (some (.ref f6))) (l6 : K.lookup f6 = some ⟨oc6, od6, .func (PySem.W.fnOf "_law_less" "_law_less" (defArgs s_less) (defBody s_less) (defScope s_less) .none kV6 dc6 pm6 an6 cd6 ct6), sl6⟩) (c6 : PySem.W.codeIn K cd6 "_law_less" = true) (k6 : PySem.W.keepIn K (.ref f6) = true)
    (a7 : PySem.W.nsIn K mainGlobals "_law_words" = some (some (.ref f7))) (l7 : K.lookup f7 = some ⟨oc7, od7, .func (PySem.W.fnOf "_law_words" "_law_words" (defArgs s_words) (defBody s_words) (defScope s_words) .none kV7 dc7 pm7 an7 cd7 ct7), sl7⟩) (c7 : PySem.W.codeIn K cd7 "_law_words" = true) (k7 : PySem.W.keepIn K (.ref f7) = true)
    (a8 : PySem.W.nsIn K mainGlobals "_law_only" = some (some (.ref f8))) (l8 : K.lookup f8 = some ⟨oc8, od8, .func (PySem.W.fnOf "_law_only" "_law_only" (defArgs s_only) (defBody s_only) (defScope s_only) .none kV8 dc8 pm8 an8 cd8 ct8), sl8⟩) (c8 : PySem.W.codeIn K cd8 "_law_only" = true) (k8 : PySem.W.keepIn K (.ref f8) = true)
    (a9 : PySem.W.nsIn K mainGlobals "_law_good" = some (some (.ref f9))) (l9 : K.lookup f9 = some ⟨oc9, od9, .func (PySem.W.fnOf "_law_good" "_law_good" (defArgs s_good) (defBody s_good) (defScope s_good) .none kV9 dc9 pm9 an9 cd9 ct9), sl9⟩) (c9 : PySem.W.codeIn K cd9 "_law_good" = true) (k9 : PySem.W.keepIn K (.ref f9) = true)
    (a10 : PySem.W.nsIn K mainGlobals "law" = some (some (.ref f10))) (l10 : K.lookup f10 = some ⟨oc10, od10, .func (PySem.W.fnOf "law" "law" (defArgs s_law) (defBody s_law) (defScope s_law) .none kV10 dc10 pm10 an10 cd10 ct10), sl10⟩) (c10 : PySem.W.codeIn K cd10 "law" = true) (k10 : PySem.W.keepIn K (.ref f10) = true)
    (xa_FarError : PySem.W.nsIn K mainGlobals "FarError" = some (some (.ref x_FarError))) (xi_FarError : PySem.W.isClsIn K x_FarError = true) (xt_FarError : PySem.W.typeIn K (.ref x_FarError) = some (.type "type")) (xu_FarError : PySem.W.subIn K (.ref x_NoWords) (.ref x_FarError) = some true)
    (xa_NoPage : PySem.W.nsIn K mainGlobals "NoPage" = some (some (.ref x_NoPage))) (xi_NoPage : PySem.W.isClsIn K x_NoPage = true) (xt_NoPage : PySem.W.typeIn K (.ref x_NoPage) = some (.type "type")) (xu_NoPage : PySem.W.subIn K (.ref x_NoWords) (.ref x_NoPage) = some false)
    (xa_NoWords : PySem.W.nsIn K mainGlobals "NoWords" = some (some (.ref x_NoWords))) (xi_NoWords : PySem.W.isClsIn K x_NoWords = true) (xt_NoWords : PySem.W.typeIn K (.ref x_NoWords) = some (.type "type")) (xu_NoWords : PySem.W.subIn K (.ref x_NoWords) (.ref x_NoWords) = some true)
    (xa_NoTelling : PySem.W.nsIn K mainGlobals "NoTelling" = some (some (.ref x_NoTelling))) (xi_NoTelling : PySem.W.isClsIn K x_NoTelling = true) (xt_NoTelling : PySem.W.typeIn K (.ref x_NoTelling) = some (.type "type")) (xu_NoTelling : PySem.W.subIn K (.ref x_NoWords) (.ref x_NoTelling) = some false)
    (xa_NoFrame : PySem.W.nsIn K mainGlobals "NoFrame" = some (some (.ref x_NoFrame))) (xi_NoFrame : PySem.W.isClsIn K x_NoFrame = true) (xt_NoFrame : PySem.W.typeIn K (.ref x_NoFrame) = some (.type "type")) (xu_NoFrame : PySem.W.subIn K (.ref x_NoWords) (.ref x_NoFrame) = some false)
    (xa_NoPiece : PySem.W.nsIn K mainGlobals "NoPiece" = some (some (.ref x_NoPiece))) (xi_NoPiece : PySem.W.isClsIn K x_NoPiece = true) (xt_NoPiece : PySem.W.typeIn K (.ref x_NoPiece) = some (.type "type")) (xu_NoPiece : PySem.W.subIn K (.ref x_NoWords) (.ref x_NoPiece) = some false)
    (xa_NoName : PySem.W.nsIn K mainGlobals "NoName" = some (some (.ref x_NoName))) (xi_NoName : PySem.W.isClsIn K x_NoName = true) (xt_NoName : PySem.W.typeIn K (.ref x_NoName) = some (.type "type")) (xu_NoName : PySem.W.subIn K (.ref x_NoWords) (.ref x_NoName) = some false)
    (xa_NoEnds : PySem.W.nsIn K mainGlobals "NoEnds" = some (some (.ref x_NoEnds))) (xi_NoEnds : PySem.W.isClsIn K x_NoEnds = true) (xt_NoEnds : PySem.W.typeIn K (.ref x_NoEnds) = some (.type "type")) (xu_NoEnds : PySem.W.subIn K (.ref x_NoWords) (.ref x_NoEnds) = some false)
    (xa_NoCall : PySem.W.nsIn K mainGlobals "NoCall" = some (some (.ref x_NoCall))) (xi_NoCall : PySem.W.isClsIn K x_NoCall = true) (xt_NoCall : PySem.W.typeIn K (.ref x_NoCall) = some (.type "type")) (xu_NoCall : PySem.W.subIn K (.ref x_NoWords) (.ref x_NoCall) = some false)
    (xa_NoSaying : PySem.W.nsIn K mainGlobals "NoSaying" = some (some (.ref x_NoSaying))) (xi_NoSaying : PySem.W.isClsIn K x_NoSaying = true) (xt_NoSaying : PySem.W.typeIn K (.ref x_NoSaying) = some (.type "type")) (xu_NoSaying : PySem.W.subIn K (.ref x_NoWords) (.ref x_NoSaying) = some false)
    (xq_NoWords : PySem.W.excIn K x_NoWords veB "ValueError.__new__" = true) (xk_NoWords : PySem.W.keepIn K (.ref x_NoWords) = true) (xs_NoWords : PySem.W.subIn K (.ref x_NoWords) (.type "BaseException") = some true) (xs_FarError : PySem.W.subIn K (.ref x_FarError) (.type "BaseException") = some true) (xv_NoWords : PySem.W.subIn K (.ref x_NoWords) (.type "ValueError") = some true)
    (eg : PySem.W.findIn K (.ref x_NoWords) "__getattribute__" = some (some (.builtin "BaseException.__getattribute__"))) (ek : PySem.W.findIn K (.ref x_NoWords) "__getattr__" = some none) (ed : PySem.W.hasDictIn K x_NoWords = true) (ea : PySem.W.findIn K (.ref x_NoWords) "__class__" = some (some (.builtin "object.__class__"))) (en : PySem.W.specialIn K (.builtin "object.__class__") "__get__" = some (some (.builtin "getset_descriptor.__get__"))) (et : PySem.W.takesIn K (.builtin "object.__class__") = some true) (em : PySem.W.mroIn K x_NoWords (.type "object") = some true)
    (z_ValueError : PySem.W.nsIn K mainGlobals "ValueError" = some none)
    (z_abs : PySem.W.nsIn K mainGlobals "abs" = some none)
    (z_int : PySem.W.nsIn K mainGlobals "int" = some none)
    (z_isinstance : PySem.W.nsIn K mainGlobals "isinstance" = some none)
    (z_len : PySem.W.nsIn K mainGlobals "len" = some none)
    (z_list : PySem.W.nsIn K mainGlobals "list" = some none)
    (z_max : PySem.W.nsIn K mainGlobals "max" = some none)
    (z_min : PySem.W.nsIn K mainGlobals "min" = some none)
    (z_range : PySem.W.nsIn K mainGlobals "range" = some none)
    (z_sorted : PySem.W.nsIn K mainGlobals "sorted" = some none)
    : LamX.LawAtS l w K CX0 4 63 "_law_script" mg fa h := by
  have e := hfa.symm.trans (PySem.W.mg_of X G a10)
  cases e
  have F0 := fun_mk (st := s_words_by) l0 c0 k0
  have b0 := F0.binds (ps := P_words_by) fun _ _ _ _ _ _ us hl => match us, hl with | [_], _ => rfl
  have F1 := fun_mk (st := s_making_order) l1 c1 k1
  have b1 := F1.binds (ps := P_making_order) fun _ _ _ _ _ _ us hl => match us, hl with | [_], _ => rfl
  have F2 := fun_mk (st := s_one_less) l2 c2 k2
  have b2 := F2.binds (ps := P_one_less) fun _ _ _ _ _ _ us hl => match us, hl with | [_], _ => rfl
  have F3 := fun_mk (st := s_bag) l3 c3 k3
  have b3 := F3.binds (ps := P_bag) fun _ _ _ _ _ _ us hl => match us, hl with | [_, _], _ => rfl
  have F4 := fun_mk (st := s_draw) l4 c4 k4
  have b4 := F4.binds (ps := P_draw) fun _ _ _ _ _ _ us hl => match us, hl with | [_, _], _ => rfl
  have F5 := fun_mk (st := s_lengths) l5 c5 k5
  have b5 := F5.binds (ps := P_lengths) fun _ _ _ _ _ _ us hl => match us, hl with | [_], _ => rfl
  have F6 := fun_mk (st := s_less) l6 c6 k6
  have b6 := F6.binds (ps := P_less) fun _ _ _ _ _ _ us hl => match us, hl with | [_], _ => rfl
  have F7 := fun_mk (st := s_words) l7 c7 k7
  have b7 := F7.binds (ps := P_words) fun _ _ _ _ _ _ us hl => match us, hl with | [_], _ => rfl
  have F8 := fun_mk (st := s_only) l8 c8 k8
  have b8 := F8.binds (ps := P_only) fun _ _ _ _ _ _ us hl => match us, hl with | [_, _], _ => rfl
  have F9 := fun_mk (st := s_good) l9 c9 k9
  have b9 := F9.binds (ps := P_good) fun _ _ _ _ _ _ us hl => match us, hl with | [_], _ => rfl
  have F10 := fun_mk (st := s_law) l10 c10 k10
  refine ⟨PySem.W.fnOf "law" "law" (defArgs s_law) (defBody s_law) (defScope s_law) .none kV10 dc10 pm10 an10 cd10 ct10, [(k_making_order, p_making_order)], spLaw K p_making_order, ?_, ?_, ?_, fun s v => .of_eq rfl, ?_, fun base kb nb tb => ?_⟩
  · intro q hq; rw [List.mem_singleton.mp hq]; exact hT_making_order
  · intro q hq; rw [List.mem_singleton.mp hq]; exact nT_making_order
  · intro q hq; rw [List.mem_singleton.mp hq]; exact PySem.W.codeHd_of_K X hd_making_order
  · exact fun H a ns hl _ hH hS => ⟨a, ns, rfl, hS, hl, hH _ (List.mem_singleton.mpr rfl), fun _ => rfl⟩
  · exact ok_law (A := ⟨f0, _, f1, _, f2, _, f3, _, f4, _, f5, _, f6, _, f7, _, f8, _, f9, _, fa, _, k_making_order, p_making_order, x_FarError, x_NoPage, x_NoWords, x_NoTelling, x_NoFrame, x_NoPiece, x_NoName, x_NoEnds, x_NoCall, x_NoSaying⟩) ⟨F0, b0, PySem.W.mg_of X G a0, F1, b1, PySem.W.mg_of X G a1, F2, b2, PySem.W.mg_of X G a2, F3, b3, PySem.W.mg_of X G a3, F4, b4, PySem.W.mg_of X G a4, F5, b5, PySem.W.mg_of X G a5, F6, b6, PySem.W.mg_of X G a6, F7, b7, PySem.W.mg_of X G a7, F8, b8, PySem.W.mg_of X G a8, F9, b9, PySem.W.mg_of X G a9, F10, PySem.W.mg_of X G a10, tb _ (List.mem_singleton.mpr rfl), ⟨_, _, _, _, _, _, _, _, l1, c1⟩, PySem.W.mg_of X G xa_FarError, kit_own xu_NoWords xi_FarError xt_FarError xu_FarError, PySem.W.mg_of X G xa_NoPage, kit_own xu_NoWords xi_NoPage xt_NoPage xu_NoPage, PySem.W.mg_of X G xa_NoWords, kit_own xu_NoWords xi_NoWords xt_NoWords xu_NoWords, PySem.W.mg_of X G xa_NoTelling, kit_own xu_NoWords xi_NoTelling xt_NoTelling xu_NoTelling, PySem.W.mg_of X G xa_NoFrame, kit_own xu_NoWords xi_NoFrame xt_NoFrame xu_NoFrame, PySem.W.mg_of X G xa_NoPiece, kit_own xu_NoWords xi_NoPiece xt_NoPiece xu_NoPiece, PySem.W.mg_of X G xa_NoName, kit_own xu_NoWords xi_NoName xt_NoName xu_NoName, PySem.W.mg_of X G xa_NoEnds, kit_own xu_NoWords xi_NoEnds xt_NoEnds xu_NoEnds, PySem.W.mg_of X G xa_NoCall, kit_own xu_NoWords xi_NoCall xt_NoCall xu_NoCall, PySem.W.mg_of X G xa_NoSaying, kit_own xu_NoWords xi_NoSaying xt_NoSaying xu_NoSaying, xq_NoWords, xk_NoWords, xs_NoWords, xt_NoWords, ⟨eg, ek, xs_NoWords, ed, ea, en, et, em⟩, kit_ve xv_NoWords, exm_sub xs_FarError xi_FarError xt_FarError xu_FarError, PySem.W.mg_none_of X G z_ValueError, PySem.W.mg_none_of X G z_abs, PySem.W.mg_none_of X G z_int, PySem.W.mg_none_of X G z_isinstance, PySem.W.mg_none_of X G z_len, PySem.W.mg_none_of X G z_list, PySem.W.mg_none_of X G z_max, PySem.W.mg_none_of X G z_min, PySem.W.mg_none_of X G z_range, PySem.W.mg_none_of X G z_sorted⟩
end K05
open PySem PySem.W PyProof.Rows
set_option maxHeartbeats 0 in
theorem PySem.Challenge.cw_farpage_k05_words_by_lengths_holds : PySem.Challenge.rw_farpage_k05_words_by_lengths.Holds := by
  w_on; o_law; k_head; (case hw => w_witness2)
  k_fill
  refine LamX.walk_ofTs (l := PySem.Challenge.rw_farpage_k05_words_by_lengths) (n := 63) (k := 4) (x := "_law_script") (CX := fun _ => L2.CX0) rfl (by decide) rfl ⟨rfl, by decide, by decide⟩ (fun w h Y => PySem.W.km_in_of Y) ?F (fun _ _ _ _ _ h => h)
  case F =>
    intro w mg fa h Y KX G hmg
    have tabs := PySem.W.km_tabs_of Y
    refine' K05.all_mk KX G hmg ?a0 ?l0 ?c0 ?k0 ?a1 ?l1 ?c1 ?k1 ?hT_making_order ?hd_making_order ?nT_making_order ?a2 ?l2 ?c2 ?k2 ?a3 ?l3 ?c3 ?k3 ?a4 ?l4 ?c4 ?k4 ?a5 ?l5 ?c5 ?k5 ?a6 ?l6 ?c6 ?k6 ?a7 ?l7 ?c7 ?k7 ?a8 ?l8 ?c8 ?k8 ?a9 ?l9 ?c9 ?k9 ?a10 ?l10 ?c10 ?k10 ?xa_FarError ?xi_FarError ?xt_FarError ?xu_FarError ?xa_NoPage ?xi_NoPage ?xt_NoPage ?xu_NoPage ?xa_NoWords ?xi_NoWords ?xt_NoWords ?xu_NoWords ?xa_NoTelling ?xi_NoTelling ?xt_NoTelling ?xu_NoTelling ?xa_NoFrame ?xi_NoFrame ?xt_NoFrame ?xu_NoFrame ?xa_NoPiece ?xi_NoPiece ?xt_NoPiece ?xu_NoPiece ?xa_NoName ?xi_NoName ?xt_NoName ?xu_NoName ?xa_NoEnds ?xi_NoEnds ?xt_NoEnds ?xu_NoEnds ?xa_NoCall ?xi_NoCall ?xt_NoCall ?xu_NoCall ?xa_NoSaying ?xi_NoSaying ?xt_NoSaying ?xu_NoSaying ?xq_NoWords ?xk_NoWords ?xs_NoWords ?xs_FarError ?xv_NoWords ?eg ?ek ?ed ?ea ?en ?et ?em ?z_ValueError ?z_abs ?z_int ?z_isinstance ?z_len ?z_list ?z_max ?z_min ?z_range ?z_sorted
    (case xa_FarError => k_is)
    (case xa_NoPage => k_is)
    (case xa_NoWords => k_is)
    (case xa_NoTelling => k_is)
    (case xa_NoFrame => k_is)
    (case xa_NoPiece => k_is)
    (case xa_NoName => k_is)
    (case xa_NoEnds => k_is)
    (case xa_NoCall => k_is)
    (case xa_NoSaying => k_is)
    (case a0 => k_is)
    (case l0 => k_is)
    (case c0 => k_is)
    (case k0 => k_is)
    (case a1 => k_is)
    (case l1 => k_is)
    (case c1 => k_is)
    (case k1 => k_is)
    (case hT_making_order => exact tabs _ (List.mem_singleton.mpr rfl))
    (case hd_making_order => first | k_is | exact rfl | kernel_rfl)
    (case nT_making_order => first | exact rfl | kernel_rfl)
    (case a2 => k_is)
    (case l2 => k_is)
    (case c2 => k_is)
    (case k2 => k_is)
    (case a3 => k_is)
    (case l3 => k_is)
    (case c3 => k_is)
    (case k3 => k_is)
    (case a4 => k_is)
    (case l4 => k_is)
    (case c4 => k_is)
    (case k4 => k_is)
    (case a5 => k_is)
    (case l5 => k_is)
    (case c5 => k_is)
    (case k5 => k_is)
    (case a6 => k_is)
    (case l6 => k_is)
    (case c6 => k_is)
    (case k6 => k_is)
    (case a7 => k_is)
    (case l7 => k_is)
    (case c7 => k_is)
    (case k7 => k_is)
    (case a8 => k_is)
    (case l8 => k_is)
    (case c8 => k_is)
    (case k8 => k_is)
    (case a9 => k_is)
    (case l9 => k_is)
    (case c9 => k_is)
    (case k9 => k_is)
    (case a10 => k_is)
    (case l10 => k_is)
    (case c10 => k_is)
    (case k10 => k_is)
    (case xi_FarError => k_is)
    (case xt_FarError => k_is)
    (case xu_FarError => first | rfl | k_is)
    (case xi_NoPage => k_is)
    (case xt_NoPage => k_is)
    (case xu_NoPage => first | rfl | k_is)
    (case xi_NoWords => k_is)
    (case xt_NoWords => k_is)
    (case xu_NoWords => first | rfl | k_is)
    (case xi_NoTelling => k_is)
    (case xt_NoTelling => k_is)
    (case xu_NoTelling => first | rfl | k_is)
    (case xi_NoFrame => k_is)
    (case xt_NoFrame => k_is)
    (case xu_NoFrame => first | rfl | k_is)
    (case xi_NoPiece => k_is)
    (case xt_NoPiece => k_is)
    (case xu_NoPiece => first | rfl | k_is)
    (case xi_NoName => k_is)
    (case xt_NoName => k_is)
    (case xu_NoName => first | rfl | k_is)
    (case xi_NoEnds => k_is)
    (case xt_NoEnds => k_is)
    (case xu_NoEnds => first | rfl | k_is)
    (case xi_NoCall => k_is)
    (case xt_NoCall => k_is)
    (case xu_NoCall => first | rfl | k_is)
    (case xi_NoSaying => k_is)
    (case xt_NoSaying => k_is)
    (case xu_NoSaying => first | rfl | k_is)
    (case xq_NoWords => k_exc)
    (case xk_NoWords => k_is)
    (case xs_NoWords => k_is)
    (case xs_FarError => k_is)
    (case xv_NoWords => k_is)
    (case eg => k_is)
    (case ek => k_is)
    (case ed => k_is)
    (case ea => k_is)
    (case en => k_is)
    (case et => k_is)
    (case em => k_is)
    (case z_ValueError => k_is)
    (case z_abs => k_is)
    (case z_int => k_is)
    (case z_isinstance => k_is)
    (case z_len => k_is)
    (case z_list => k_is)
    (case z_max => k_is)
    (case z_min => k_is)
    (case z_range => k_is)
    (case z_sorted => k_is)
