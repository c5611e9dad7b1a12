import PyProof.Rows.All
import Wide.All
import OpenK.AllK
import Wide.FinOn
import HandS.ForMost
import HandS.IsInst
import HandS.StrMore
import HandS.Codes
import HandS.Evl
import HandS.TupAny
import HandS.TupMul
import HandS.Walk
import PyProof.Rows.StrJoinRep
import HandS.Lambda
import HandS.EndTab
import HandS.Conv
import KE.SortKeyHeap
import HandS.More
import HandS.TryOnly
import HandS.WordsExc
import PySem.Challenge.RW_farpage_k06_whole_no_word_begins_another
set_option Elab.async false
set_option linter.all false
set_option maxRecDepth 100000
set_option maxHeartbeats 4000000
/-! Rules of our own over the hand layer: a sign times an int, list(text), ljust with a sign. -/
namespace Fp
open PySem L2 PyProof.Rows
/-- a text by its codes -/
def sOf (l : List Nat) : Str := ⟨l.toArray⟩
theorem sOf_list (l : List Nat) : (sOf l).cps.toList = l := by simp [sOf]
theorem sOf_len (l : List Nat) : (sOf l).length = l.length := by simp [sOf, Str.length]
theorem of_list {z : Str} {l : List Nat} (h : z.cps.toList = l) : z = sOf l := str_of_list (by rw [h, sOf_list])
theorem sOf_inj {l m : List Nat} (h : sOf l = sOf m) : l = m := by
  have := congrArg (fun z => z.cps.toList) h
  simpa [sOf] using this
theorem sOf_app (l m : List Nat) : sOf l ++ sOf m = sOf (l ++ m) := by
  apply of_list
  show ((sOf l) ++ (sOf m)).cps.toList = l ++ m
  rw [show ((sOf l) ++ (sOf m)).cps = (sOf l).cps ++ (sOf m).cps from rfl]
  simp [sOf]
section
variable {X : Cx}
theorem op_mul_str : OpR X (binaryOp .Mult) (fun x y H Q => ∃ c n, x = .str (sOf [c]) ∧ y = .int n ∧ (-100000 ≤ n ∧ n ≤ 100000) ∧ Q (.str (sOf (List.replicate n.toNat c))) H) := by
  intro pins s σ H x y v u Q I rx ry h
  obtain ⟨c, n, rfl, rfl, hz, q⟩ := h
  obtain ⟨t, rfl⟩ := rx
  obtain ⟨t', rfl⟩ := ry
  refine SB.mul (mulOk_of 1 100000 (by rw [sOf_len]; exact Nat.le_refl _) (by omega) (by omega) (by decide) (by decide)) fun t' k => ?_
  have e : Txt.mul (sOf [c]) n = sOf (List.replicate n.toNat c) := of_list (mul_one_list c n)
  rw [e]
  exact ⟨.str (sOf (List.replicate n.toNat c)), H, I.tok _, ⟨_, rfl⟩, q⟩
theorem padOk {i : Int} (h0 : 0 ≤ i) (h1 : i ≤ 100000) : PadOk i = true := padOk_of (by omega) (by omega)
theorem mt_ljustF : MtR X "str.ljust" (fun x xs H Q => ∃ (l : List Nat) (i : Int) (c : Nat), x = .str (sOf l) ∧ xs = [.int i, .str (sOf [c])] ∧ (0 ≤ i ∧ i ≤ 100000) ∧ Q (.str (sOf (l ++ List.replicate (i.toNat - l.length) c))) H) := by
  intro pins s σ H x xs v us Q I rx rs h
  obtain ⟨l, i, c, rfl, rfl, hz, q⟩ := h
  obtain ⟨t, rfl⟩ := rx
  obtain ⟨u, w', rfl, ⟨t', rfl⟩, ⟨t'', rfl⟩⟩ := vals2 rs
  refine ljust_fill (padOk hz.1 hz.2) (sOf_len _) fun t' k => ?_
  have e : Txt.ljustF (sOf l) i ((sOf [c]).cps.getD 0 0) = sOf (l ++ List.replicate (i.toNat - l.length) c) := of_list (by
    rw [ljustF_list, sOf_list, sOf_len]
    rfl)
  rw [e]
  exact ⟨.str (sOf (l ++ List.replicate (i.toNat - l.length) c)), H, I.tok _, ⟨_, rfl⟩, q⟩
theorem vals_signs {acc : List Value} {l : List Nat} (h1 : acc.length = l.length) (h2 : ∀ (j : Nat) v, acc[j]? = some v → ∃ c u, l[j]? = some c ∧ v = .str ⟨#[c]⟩ u) : Vals (l.map fun c => V.str (sOf [c])) acc := by
  induction l generalizing acc with
  | nil =>
    cases acc with
    | nil => exact .nil
    | cons a r => simp at h1
  | cons c r ih =>
    cases acc with
    | nil => simp at h1
    | cons a b =>
      obtain ⟨c', u, e, rfl⟩ := h2 0 a rfl
      have e2 : c' = c := by simpa using e.symm
      subst e2
      exact .cons ⟨u, rfl⟩ (ih (by simpa using h1) fun j v hj => h2 (j + 1) v hj)
theorem call_list_str (hc : X.calm = true) : CallR X (.type "list") (fun xs H Q => ∃ z : List Nat, xs = [.str (sOf z)] ∧ z.length ≤ 100000 ∧ ∀ l, H l = none → Q (.ref l) (upd H l (.lst (z.map fun c => V.str (sOf [c]))))) := by
  intro pins s σ H xs us Q I r h
  obtain ⟨z, rfl, hz, q⟩ := h
  obtain ⟨u, rfl, t, rfl⟩ := vals1 r
  have hl : z.length ≤ sizeLine := Nat.le_trans hz (by decide)
  refine PySem.call_list_str (I.ok.hd hc) (sOf z) t (hn := by show (sOf z).length ≤ sizeLine; rw [sOf_len]; exact hl) fun h' tk acc' c' hk hS' hacc => ?_
  have r' : Vals (z.map fun c => V.str (sOf [c])) acc'.toList := vals_signs (by have := hacc.1; simpa [sOf] using this) fun j v hj => by
    obtain ⟨c, u, e, rfl⟩ := hacc.2 j v (by simpa using hj)
    exact ⟨c, u, by simpa [sOf] using e, rfl⟩
  exact ⟨.ref s.heap.objs.size, _, I.laid (t' := tk) hk (Nat.le_refl _) (show ObjOk X.prog X.w _ h' _ (.lst _) from ⟨by rw [List.length_map]; exact hl, acc'.toList, c', r', by simpa using hS'⟩), rfl, q _ (I.hok.fresh (Nat.le_refl _))⟩
end
/-! ### heaps -/
theorem same_new {H : Hp} {p : Addr} {o : HO} (h : H p = none) : Same H (upd H p o) := fun b x e => by
  rw [upd_ne (ne_of_none e h)]
  exact e
/-- what is new may change -/
theorem Same.mut {H H' : Hp} {p : Addr} {o : HO} (e : Same H H') (h : H p = none) : Same H (upd H' p o) := fun b x hb => by
  rw [upd_ne (ne_of_none hb h)]
  exact e b x hb
/-- a bag of the laws' draws -/
def BagAt (H : Hp) (b : Addr) : Prop := ∃ g s : Int, H b = some (.lst [.int g, .int s]) ∧ 0 ≤ g ∧ 0 ≤ s ∧ s < 1000000000000
/-- the bag has turned, what else stood stands -/
def Bx (b : Addr) (H H' : Hp) : Prop := BagAt H' b ∧ ∀ a o, a ≠ b → H a = some o → H' a = some o
theorem Bx.refl {b : Addr} {H : Hp} (h : BagAt H b) : Bx b H H := ⟨h, fun _ _ _ e => e⟩
theorem Bx.trans {b : Addr} {H H1 H2 : Hp} (x : Bx b H H1) (y : Bx b H1 H2) : Bx b H H2 := ⟨y.1, fun a o n e => y.2 a o n (x.2 a o n e)⟩
theorem Bx.drawn {b : Addr} {H : Hp} {g s : Int} (g0 : 0 ≤ g) (s0 : 0 ≤ s) (s1 : s < 1000000000000) : Bx b H (upd H b (.lst [.int g, .int s])) := ⟨⟨g, s, upd_same, g0, s0, s1⟩, fun a o n e => by
  rw [upd_ne n]
  exact e⟩
theorem Bx.same {b : Addr} {H H1 H2 : Hp} (x : Bx b H H1) (y : Same H1 H2) : Bx b H H2 := by
  obtain ⟨⟨g, s, h, r⟩, k⟩ := x
  exact ⟨⟨g, s, y _ _ h, r⟩, fun a o n e => y _ _ (k a o n e)⟩
/-- from before the bag was made -/
theorem Bx.back {b : Addr} {H0 H H' : Hp} (x : Bx b H H') (y : Same H0 H) (n : H0 b = none) : Same H0 H' := fun a o e => x.2 a o (ne_of_none e n) (y a o e)
theorem Bx.mut {b p : Addr} {H H' : Hp} {o : HO} (x : Bx b H H') (hp : H p = none) (n : p ≠ b) : Bx b H (upd H' p o) := by
  obtain ⟨⟨g, s, h, r⟩, k⟩ := x
  refine ⟨⟨g, s, by rw [upd_ne n.symm]; exact h, r⟩, fun a u m e => ?_⟩
  rw [upd_ne (ne_of_none e hp)]
  exact k a u m e
theorem Bx.free {b p : Addr} {H H' : Hp} (x : Bx b H H') (h : H' p = none) : H p = none := by
  have n : p ≠ b := by
    obtain ⟨g, s, e, _⟩ := x.1
    exact (ne_of_none e h).symm
  cases q : H p with
  | none => rfl
  | some o =>
    rw [x.2 p o n q] at h
    cases h
theorem BagAt.new {H : Hp} {p : Addr} {g s : Int} (g0 : 0 ≤ g) (s0 : 0 ≤ s) (s1 : s < 1000000000000) : BagAt (upd H p (.lst [.int g, .int s])) p := ⟨g, s, upd_same, g0, s0, s1⟩
theorem BagAt.ne {H : Hp} {b p : Addr} (h : BagAt H b) (n : H p = none) : p ≠ b := by
  obtain ⟨g, s, e, _⟩ := h
  exact (ne_of_none e n).symm
/-- a list's own address is no bag's where its items are texts -/
def cells (l : List Nat) : List V := l.map fun c => V.str (sOf [c])
theorem cells_len (l : List Nat) : (cells l).length = l.length := List.length_map ..
theorem cells_set (l : List Nat) (j c : Nat) : (cells l).set j (.str (sOf [c])) = cells (l.set j c) := by
  unfold cells
  rw [List.map_set]
theorem cells_app (l : List Nat) (c : Nat) : cells l ++ [.str (sOf [c])] = cells (l ++ [c]) := by
  unfold cells
  rw [List.map_append]
  rfl
/-- the cells of rows -/
def Cell (c : Nat) : Prop := c = 46 ∨ c = 35
def Row (l : List Nat) : Prop := ∀ c ∈ l, Cell c
theorem Row.set {l : List Nat} {j c : Nat} (h : Row l) (hc : Cell c) : Row (l.set j c) := fun x hx => by
  rcases List.mem_or_eq_of_mem_set hx with e | e
  · exact h x e
  · rw [e]
    exact hc
theorem Row.app {l : List Nat} {c : Nat} (h : Row l) (hc : Cell c) : Row (l ++ [c]) := fun x hx => by
  rcases List.mem_append.mp hx with e | e
  · exact h x e
  · rw [List.mem_singleton.mp e]
    exact hc
theorem Row.rep {n c : Nat} (hc : Cell c) : Row (List.replicate n c) := fun x hx => by
  rw [(List.mem_replicate.mp hx).2]
  exact hc
theorem Row.nil : Row [] := fun _ h => nomatch h
def cellN (i : Int) : Nat := if i = 0 then 46 else 35
theorem cellN_cell (i : Int) : Cell (cellN i) := by
  unfold cellN
  split
  · exact .inl rfl
  · exact .inr rfl
theorem cell_at {i : Int} (h0 : 0 ≤ i) (h1 : i < 2) : atI (Str.ofString ".#").cps.toList i = some (cellN i) := by
  have : i = 0 ∨ i = 1 := by omega
  rcases this with rfl | rfl <;> rfl
theorem two_len : (Str.ofString ".#").length ≤ sizeLine := by decide
theorem sz {n : Nat} (h : n ≤ 100000) : n ≤ sizeLine := Nat.le_trans h (by decide)
theorem szl {n : Nat} (h : n < 100000) : n < sizeLine := Nat.lt_of_lt_of_le h (by decide)
theorem sIx_nat' (n d a : Nat) : HT.sIx n d (some (a : Int)) = min a n := HT.sIx_nat n d a
theorem cutS_nat (l : List Nat) (a b : Nat) (ha : a ≤ l.length) (hb : b ≤ l.length) : cutS (sOf l) (some (a : Int)) (some (b : Int)) = sOf ((l.drop a).take (b - a)) := by
  unfold cutS
  rw [HT.sIx_nat, HT.sIx_nat, sOf_len, sOf_list, Nat.min_eq_left ha, Nat.min_eq_left hb]
  rfl
theorem take_more {α : Type} (l : List α) (i : Nat) (x : α) (h : l[i]? = some x) : l.take (i + 1) = l.take i ++ [x] := by
  rw [List.take_add_one, h]
  rfl
theorem range_more {α : Type} (f : Nat → α) (i : Nat) : (List.range (i + 1)).map f = (List.range i).map f ++ [f i] := by
  rw [List.range_succ, List.map_append]
  rfl
theorem join_cells : ∀ l : List Nat, Txt.join (Str.ofString "") (l.map fun c => sOf [c]) = sOf l := by
  intro l
  show Builtin.Str.glued (Str.ofString "") (l.map fun c => sOf [c]) = sOf l
  rw [StrLaws.glued_eq_join]
  induction l with
  | nil => rfl
  | cons c r ih =>
    cases r with
    | nil => rfl
    | cons d r =>
      show sOf [c] ++ Str.ofString "" ++ Str.join (Str.ofString "") (List.map (fun c => sOf [c]) (d :: r)) = sOf (c :: d :: r)
      rw [ih, show (Str.ofString "") = sOf [] from rfl, sOf_app, sOf_app]
      rfl
theorem cells_strs (l : List Nat) : cells l = (l.map fun c => sOf [c]).map V.str := by
  rw [List.map_map]
  rfl
theorem ones_sum (l : List Nat) : ((l.map fun c => sOf [c]).map (·.length)).sum = l.length := by
  induction l with
  | nil => rfl
  | cons c r ih =>
    rw [List.map_cons, List.map_cons, List.sum_cons, ih, sOf_len, List.length_cons]
    show 1 + r.length = r.length + 1
    omega
theorem join_size {l : List Nat} (h : l.length ≤ 100000) : ((l.map fun c => sOf [c]).map (·.length)).sum + (l.map fun c => sOf [c]).length * (Str.ofString "").length ≤ 16777216 := by
  rw [ones_sum, show (Str.ofString "").length = 0 from rfl]
  omega
theorem rep_one (n : Nat) (c : Nat) : (List.replicate n [V.str (sOf [c])]).flatten = cells (List.replicate n c) := by
  induction n with
  | zero => rfl
  | succ k ih =>
    rw [List.replicate_succ, List.flatten_cons, ih, List.replicate_succ]
    rfl

/-! ### lists and tuples of texts -/
def sV (l : List Nat) : V := .str (sOf l)
def sD (l : List Nat) : PyData := .str (sOf l)
theorem dp_rows {K : PySem.W.Frag} {H : Hp} : ∀ rows : List (List Nat), DpAll K H (rows.map sV) (rows.map sD)
  | [] => .nil
  | r :: rs => .cons (.str _) (dp_rows rs)
def Codes (l : List Nat) : Prop := ∀ c ∈ l, c < 128
theorem strOk_of {l : List Nat} (h : Codes l) : PyData.strOk (sOf l) = true := by
  unfold PyData.strOk sOf
  rw [Array.all_eq_true']
  intro c hc
  have h2 := h c (by simpa using hc)
  exact decide_eq_true (by omega)
theorem lay_rows : ∀ {rows : List (List Nat)}, (∀ r ∈ rows, Codes r) → PyData.canLayAll0 (rows.map sD) = true
  | [], _ => by simp [PyData.canLayAll0]
  | r :: rs, h => by
    have h1 : PyData.canLay0 (sD r) = true := by
      show PyData.canLay0 (.str (sOf r)) = true
      simp only [PyData.canLay0]
      exact strOk_of (h r (List.mem_cons_self ..))
    have h2 := lay_rows (rows := rs) fun x hx => h x (List.mem_cons_of_mem _ hx)
    simp only [List.map_cons, PyData.canLayAll0, h1, h2, Bool.and_true]
theorem depth_rows : ∀ rows : List (List Nat), PyData.depthAll (rows.map sD) = 0
  | [] => by simp [PyData.depthAll]
  | r :: rs => by
    have h := depth_rows rs
    simp only [List.map_cons, PyData.depthAll, h, sD, PyData.depth]
    rfl
theorem shaped_tup {rows : List (List Nat)} (h : ∀ r ∈ rows, Codes r) : SeqAt.shaped (.tuple (rows.map sD)) = true := by
  show (PyData.canLay0 (.tuple (rows.map sD)) && decide (PyData.depth (.tuple (rows.map sD)) ≤ 64)) = true
  rw [Bool.and_eq_true]
  refine ⟨by simp only [PyData.canLay0]; exact lay_rows h, decide_eq_true ?_⟩
  simp only [PyData.depth, depth_rows]
  omega
theorem shaped_lst {rows : List (List Nat)} (h : ∀ r ∈ rows, Codes r) : SeqAt.shaped (.list (rows.map sD)) = true := by
  show (PyData.canLay0 (.list (rows.map sD)) && decide (PyData.depth (.list (rows.map sD)) ≤ 64)) = true
  rw [Bool.and_eq_true]
  refine ⟨by simp only [PyData.canLay0]; exact lay_rows h, decide_eq_true ?_⟩
  simp only [PyData.depth, depth_rows]
  omega
theorem eqv_tup {rows : List (List Nat)} (h : ∀ r ∈ rows, Codes r) : PyData.eqv (.tuple (rows.map sD)) (.tuple (rows.map sD)) = true := SeqAt.eqv_refl _ (by simp only [PyData.canLay0]; exact lay_rows h)
theorem eqv_lst {rows : List (List Nat)} (h : ∀ r ∈ rows, Codes r) : PyData.eqv (.list (rows.map sD)) (.list (rows.map sD)) = true := SeqAt.eqv_refl _ (by simp only [PyData.canLay0]; exact lay_rows h)
theorem Row.codes {l : List Nat} (h : Row l) : Codes l := fun c hc => by
  rcases h c hc with e | e <;> rw [e] <;> decide
theorem same_t {K : PySem.W.Frag} {H H' : Hp} {a : Addr} {xs : List V} (e : Same H H') (h : SqT K H a xs) : SqT K H' a xs := Evl.ex_t e h
theorem cut1 (xs : List V) : cutV xs (some 1) none = xs.drop 1 := by
  unfold cutV
  rw [show HT.sIx xs.length 0 (some 1) = min 1 xs.length from HT.sIx_nat xs.length 0 1, HT.sIx_none]
  cases xs with
  | nil => rfl
  | cons x r =>
    rw [show min 1 (x :: r).length = 1 by
      rw [List.length_cons]
      omega]
    show (List.take ((x :: r).length - 1) r) = r
    rw [List.length_cons, Nat.add_sub_cancel]
    exact List.take_length

/-! ### tuples of any kind, texts times an int -/
section
variable {X : Cx}
theorem cutV_whole {xs : List V} {lo hi : Option Int} (h : HT.sIx xs.length 0 lo = 0 ∧ HT.sIx xs.length xs.length hi = xs.length) : cutV xs lo hi = xs := by
  unfold cutV
  rw [h.1, h.2]
  show (xs.drop 0).take (xs.length - 0) = xs
  rw [List.drop_zero, Nat.sub_zero, List.take_length]
theorem sl_tupW : SlR X (fun x lo hi H Q => ∃ a xs, x = .ref a ∧ H a = some (.tup xs) ∧ ∀ q H', Same H H' → H' q = some (.tup (cutV xs lo hi)) → Q (.ref q) H') := by
  intro pins s σ H x v vl vu lo hi sl Q I rx hs pl pu h
  obtain ⟨a, xs, rfl, hx, q⟩ := h
  refine sl_tupA pins s σ H _ v vl vu lo hi sl Q I rx hs pl pu ⟨a, xs, rfl, .inl (.inl hx), fun e => ?_, fun e p hp => ?_⟩
  · exact q a H (Same.refl H) (by rw [cutV_whole e]; exact hx)
  · exact q p _ (same_new hp) upd_same
theorem op_catW : OpR X (binaryOp .Add) (fun x y H Q => ∃ a b xs ys, x = .ref a ∧ y = .ref b ∧ H a = some (.tup xs) ∧ H b = some (.tup ys) ∧ xs.length + ys.length ≤ 100000 ∧ ∀ q H', Same H H' → H' q = some (.tup (xs ++ ys)) → Q (.ref q) H') := by
  intro pins s σ H x y v u Q I rx ry h
  obtain ⟨a, b, xs, ys, rfl, rfl, ha, hb, hz, q⟩ := h
  refine op_catA pins s σ H _ _ v u Q I rx ry ⟨a, b, xs, ys, rfl, rfl, .inl (.inl ha), .inl (.inl hb), sz hz, fun e => ?_, fun _ e => ?_, fun _ _ p hp => ?_⟩
  · subst e
    exact q b H (Same.refl H) hb
  · subst e
    exact q a H (Same.refl H) (by rw [List.append_nil]; exact ha)
  · exact q p _ (same_new hp) upd_same
theorem op_mul_txt : OpR X (binaryOp .Mult) (fun x y H Q => ∃ (z : Str) (n : Int), x = .str z ∧ y = .int n ∧ (0 ≤ n ∧ n ≤ 1000 ∧ z.length ≤ 1000) ∧ ∀ m : Str, (m.length : Int) = (z.length : Int) * n → Q (.str m) H) := by
  intro pins s σ H x y v u Q I rx ry h
  obtain ⟨z, n, rfl, rfl, hz, q⟩ := h
  obtain ⟨t, rfl⟩ := rx
  obtain ⟨t', rfl⟩ := ry
  refine SB.mul (mulOk_of 1000 1000 hz.2.2 (by omega) (by omega) (by decide) (by decide)) fun t' k => ?_
  have e := len_mul z n
  rw [if_neg (by simp; omega)] at e
  exact ⟨.str (Txt.mul z n), H, I.tok _, ⟨_, rfl⟩, q _ e⟩
end
theorem cutV_mem {xs : List V} {lo hi : Option Int} {v : V} (h : v ∈ cutV xs lo hi) : v ∈ xs := by
  unfold cutV at h
  exact List.mem_of_mem_drop (List.mem_of_mem_take h)
theorem cutV_len (xs : List V) (lo hi : Option Int) : (cutV xs lo hi).length ≤ xs.length := by
  unfold cutV
  rw [List.length_take, List.length_drop]
  omega
/-! ### things of the laws -/
def Flat (v : V) : Prop := v = .non ∨ (∃ x, v = .bl x) ∨ (∃ i, v = .int i) ∨ ∃ z : Str, v = .str z ∧ z.length ≤ 100000
def It (b : Addr) (H : Hp) (v : V) : Prop := Flat v ∨ (∃ a xs, v = .ref a ∧ a ≠ b ∧ H a = some (.lst xs)) ∨ ∃ a xs, v = .ref a ∧ H a = some (.tup xs)
def Tg (b : Addr) (H : Hp) (v : V) : Prop := Flat v ∨ (∃ a xs, v = .ref a ∧ a ≠ b ∧ H a = some (.lst xs)) ∨ ∃ a xs, v = .ref a ∧ H a = some (.tup xs) ∧ xs.length ≤ 1000 ∧ ∀ u ∈ xs, It b H u
theorem BagAt.tup {H : Hp} {b a : Addr} {xs : List V} (h : BagAt H b) (e : H a = some (.tup xs)) : a ≠ b := fun z => by
  obtain ⟨g, s, e2, _⟩ := h
  rw [z, e2] at e
  cases e
theorem It.bx {b : Addr} {H H' : Hp} {v : V} (h : It b H v) (hb : BagAt H b) (x : Bx b H H') : It b H' v := by
  rcases h with h | ⟨a, xs, rfl, n, e⟩ | ⟨a, xs, rfl, e⟩
  · exact .inl h
  · exact .inr (.inl ⟨a, xs, rfl, n, x.2 _ _ n e⟩)
  · exact .inr (.inr ⟨a, xs, rfl, x.2 _ _ (hb.tup e) e⟩)
theorem Tg.bx {b : Addr} {H H' : Hp} {v : V} (h : Tg b H v) (hb : BagAt H b) (x : Bx b H H') : Tg b H' v := by
  rcases h with h | ⟨a, xs, rfl, n, e⟩ | ⟨a, xs, rfl, e, l, k⟩
  · exact .inl h
  · exact .inr (.inl ⟨a, xs, rfl, n, x.2 _ _ n e⟩)
  · exact .inr (.inr ⟨a, xs, rfl, x.2 _ _ (hb.tup e) e, l, fun u hu => (k u hu).bx hb x⟩)
theorem Tg.it {b : Addr} {H : Hp} {v : V} (h : Tg b H v) : It b H v := by
  rcases h with h | h | ⟨a, xs, rfl, e, l, k⟩
  · exact .inl h
  · exact .inr (.inl h)
  · exact .inr (.inr ⟨a, xs, rfl, e⟩)
theorem Tg.str {b : Addr} {H : Hp} {z : Str} (h : z.length ≤ 100000) : Tg b H (.str z) := .inl (.inr (.inr (.inr ⟨z, rfl, h⟩)))
theorem It.str {b : Addr} {H : Hp} {z : Str} (h : z.length ≤ 100000) : It b H (.str z) := .inl (.inr (.inr (.inr ⟨z, rfl, h⟩)))
theorem str_sOf (z : Str) : z = sOf z.cps.toList := of_list rfl

/-! ### rules whose new objects stand in an opaque heap -/
section
variable {X : Cx} {es : List Expr} {t : TA} {pos : Pos}
theorem pe_weaken {e : Expr} {te tf : TE} (h : PE X e te) (k : ∀ σ H Q, tf σ H Q → te σ H Q) : PE X e tf := ⟨fun pins s σ H Q I q => h.run pins s σ H Q I (k σ H Q q)⟩
def tLstW (t : TA) : TE := fun σ H Q => t σ H fun xs H1 => xs.length ≤ 100000 ∧ ∀ p H2, H1 p = none → Same H1 H2 → H2 p = some (.lst xs) → Q (.ref p) H2
def tTupW (t : TA) : TE := fun σ H Q => t σ H fun xs H1 => xs.length ≤ 100000 ∧ ∀ p H2, H1 p = none → Same H1 H2 → H2 p = some (.tup xs) → Q (.ref p) H2
end
def rNewW (H : Hp) (o : HO) (Q : VK) : Prop := ∀ p H2, H p = none → Same H H2 → H2 p = some o → Q (.ref p) H2
theorem rNewW.go {H : Hp} {o : HO} {Q : VK} (q : rNewW H o Q) : ∀ p, H p = none → Q (.ref p) (upd H p o) := fun p hp => q p _ hp (same_new hp) upd_same
section
variable {X : Cx}
theorem op_catLW : OpR X (binaryOp .Add) (fun x y H Q => ∃ a b xs ys, x = .ref a ∧ y = .ref b ∧ H a = some (.lst xs) ∧ H b = some (.lst ys) ∧ xs.length + ys.length ≤ 100000 ∧ rNewW H (.lst (xs ++ ys)) Q) := by
  intro pins s σ H x y v u Q I rx ry h
  obtain ⟨a, b, xs, ys, rfl, rfl, ha, hb, hz, q⟩ := h
  exact op_cat pins s σ H _ _ v u Q I rx ry ⟨a, b, xs, ys, rfl, rfl, ha, hb, sz hz, q.go⟩
theorem op_repTW : OpR X (binaryOp .Mult) (fun x y H Q => ∃ l k xs, x = .ref l ∧ y = .int k ∧ H l = some (.tup xs) ∧ xs ≠ [] ∧ 2 ≤ k ∧ k ≤ 1000 ∧ xs.length ≤ 1000 ∧ rNewW H (.tup (List.replicate k.toNat xs).flatten) Q) := by
  intro pins s σ H x y v u Q I rx ry h
  obtain ⟨l, k, xs, rfl, rfl, hl, h1, h2, h3, h4, q⟩ := h
  exact op_repT pins s σ H _ _ v u Q I rx ry ⟨l, k, xs, rfl, rfl, .inl (.inl hl), h1, h2, h3, h4, q.go⟩
theorem call_list_ofW : CallR X (.type "list") (fun xs H Q => ∃ p ys, xs = [.ref p] ∧ (H p = some (.lst ys) ∨ H p = some (.tup ys)) ∧ rNewW H (.lst ys) Q) := by
  intro pins s σ H xs us Q I r h
  obtain ⟨p, ys, rfl, hp, q⟩ := h
  exact call_list_of pins s σ H _ us Q I r ⟨p, ys, rfl, hp.elim (fun h => .inl (SqL.of h)) (fun h => .inr (.inl (.inl h))), q.go⟩
theorem call_list_strW (hc : X.calm = true) : CallR X (.type "list") (fun xs H Q => ∃ z : Str, xs = [.str z] ∧ z.length ≤ 100000 ∧ rNewW H (.lst (cells z.cps.toList)) Q) := by
  intro pins s σ H xs us Q I r h
  obtain ⟨z, rfl, hz, q⟩ := h
  refine call_list_str hc pins s σ H _ us Q I r ⟨z.cps.toList, by rw [← str_sOf], ?_, q.go⟩
  rw [Array.length_toList]
  exact hz
end
section
variable {X : Cx} {es : List Expr} {t : TA} {pos : Pos}
theorem pe_tupW {x1} (h : PA X es t) : PE X (.Tuple es x1 pos) (tTupW t) := by
  refine ⟨fun pins s σ H Q I hq => ?_⟩
  refine wpAny_Tuple_spliced (thn (h.run pos pins s σ H _ I hq) fun us s1 ⟨xs, H1, I1, r, z, q⟩ => ⟨by rw [← r.length]; exact sz z, ?_⟩)
  have hf : H1 s1.heap.objs.size = none := I1.hok.fresh (Nat.le_refl _)
  refine ⟨.ref s1.heap.objs.size, upd H1 s1.heap.objs.size (.tup xs), I1.laid (t' := s1.toks) (fun b u e => Heap.get?_push_of_some _ e) (Nat.le_refl _) ?_, rfl, q _ _ hf (same_new hf) upd_same⟩
  exact ⟨sz z, us, r, ⟨_, Heap.get?_push_size _ rfl, rfl, _, rfl⟩⟩
theorem pe_lstW (h : PA X es t) : PE X (.List es pos) (tLstW t) := by
  refine ⟨fun pins s σ H Q I hq => ?_⟩
  refine wpAny_List_spliced (thn (h.run pos pins s σ H _ I hq) fun us s1 ⟨xs, H1, I1, r, z, q⟩ => ⟨by rw [← r.length]; exact sz z, ?_⟩)
  have hf : H1 s1.heap.objs.size = none := I1.hok.fresh (Nat.le_refl _)
  refine ⟨.ref s1.heap.objs.size, upd H1 s1.heap.objs.size (.lst xs), I1.laid (t' := s1.toks) (fun b u e => Heap.get?_push_of_some _ e) (Nat.le_refl _) ?_, rfl, q _ _ hf (same_new hf) upd_same⟩
  exact ⟨sz z, us, 0, r, Heap.get?_push_size _ rfl⟩
end
end Fp

set_option Elab.async false
set_option linter.all false
set_option maxRecDepth 100000
set_option maxHeartbeats 4000000
/-! sorted(range(n), key=lambda i: xs[i]) over the hand layer. -/
namespace Fp
open PySem PySem.W PySem.Spec PyProof.Rows
section
variable {prog : Program} {w : World} {A : Around} {E : Value → Shared → Prop} {s : Shared}
/-- the key's call: (lambda i: xs[i])(i) -/
theorem key_turn {f c' a cL : Addr} {qual : Str} {params : Arguments} {scope : Scope} {clos : List (Str × Addr)} {pm ctv : Value} {xL xP : Str} {p1 p2 p3 : Pos} {h : Heap} {tk : Nat} {its : Array Value} {i : Int} {t : Tok} {x : Int} {tx : Tok}
    (hroom : A.depth < recursionLimit) (hf : h.get? f = some (kla_obj "<lambda>" qual params (.Subscript (.Name xL p1) (.Name xP p2) p3) scope clos pm c' ctv))
    (hkind : scope.kind = .function) (hco : scope.isCoroutine = false) (hgen : scope.isGenerator = false) (hcell : ∀ y ∈ scope.names, y.2 ≠ .cell) (hP : scope.names.lookup xP = some .local) (hL : scope.names.lookup xL = some .free)
    (hcl : clos.lookup xL = some cL) (hic : h.IsCell cL (some (.ref a))) (hcr : ∃ (oc : Obj) (vs : Array Value) (t : Tok), h.get? c' = some oc ∧ oc.data = .fields vs ∧ vs[1]? = some (.str qual t))
    (hbind : ∀ v, bindArgs (kla_fn "<lambda>" qual params (.Subscript (.Name xL p1) (.Name xP p2) p3) scope clos pm (.ref c') ctv) ⟨[v], []⟩ = pure [(xP, v)])
    (hlim : h.NoLimit) (hl : h.IsList a its) (h0 : 0 ≤ i) (hi : i < 2 ^ 63) (hx : its[i.toNat]? = some (.int x tx))
    (hd1 : (xL == ("__debug__" : Str)) = false) (hd2 : (xP == ("__debug__" : Str)) = false) (hd3 : (xL == ("__classdict__" : Str)) = false) :
    wpAny (model prog w) A (call (.ref f) [.int i t]) (KeyPure (.int x) { s with heap := h, toks := tk }) E { s with heap := h, toks := tk } := by
  obtain ⟨oc, vs, tq, hoc, hdc, hvc⟩ := hcr
  refine wpAny_call (kla_callFunE hroom hf rfl hco hgen rfl ⟨c', oc, vs, tq, rfl, hoc, hdc, hvc⟩ ?_)
  rw [hbind]
  refine wpAny_pure (wpAny_newFunctionEnv hcell (fun y hy => ?_) (fun h₁ hns hsb => ⟨hlim.fresh _ hsb, ?_⟩) hkind)
  · rw [List.mem_singleton.mp hy]
    exact hP
  have kp : ∀ b o, h.get? b = some o → h₁.get? b = some o := fun b o e => hsb.extBut b o (Nat.ne_of_lt (Heap.lt_size e)) (Heap.get?_push_of_some _ e)
  show codeAny _ _ (.expr (.Subscript (.Name xL p1) (.Name xP p2) p3) (envX qual scope h.objs.size f (.ref c') clos)) _ _
  refine kla_codeExpr ?_
  have hic1 : h₁.IsCell cL (some (.ref a)) := by
    obtain ⟨o, ho, hd⟩ := hic
    exact ⟨o, kp _ _ ho, hd⟩
  have hl1 : h₁.IsList a its := by
    obtain ⟨o, ho, r⟩ := hl
    exact ⟨o, kp _ _ ho, r⟩
  refine Subscript_ (wpAny_Name (wpAny_loadName_free hkind hL hcl hic1 (wpAny_Name (wpAny_loadName_local hkind hP hns (show ([(xP, Value.int i t)] : List (Str × Value)).reverse.lookup xP = some (Value.int i t) by simp [List.lookup]) ?_) hd2) hd3) hd1)
  refine item_listR hl1 h0 hi hx ?_ rfl
  exact ⟨h₁, _, rfl, kp, .int _ _⟩
theorem each_range {acc : List Value} {n : Nat} (h1 : acc.length = n) (h2 : ∀ (j : Nat) v, acc[j]? = some v → ∃ t, v = .int (0 + (j : Int) * 1) t) : EachIs (fun v (i : Nat) => ∃ t, v = .int (i : Int) t) acc (List.range n) := by
  refine EachIs.of_zip (by rw [h1, List.length_range]) fun p hp => ?_
  obtain ⟨j, hj⟩ := List.mem_iff_getElem?.mp hp
  rw [List.getElem?_zip_eq_some] at hj
  obtain ⟨t, e⟩ := h2 j p.1 hj.1
  have e2 : p.2 = j := by
    have hj2 := hj.2
    have hl : j < n := by
      have := (List.getElem?_eq_some_iff.mp hj2).1
      rw [List.length_range] at this
      exact this
    rw [List.getElem?_range hl] at hj2
    exact (Option.some.inj hj2).symm
  refine ⟨t, ?_⟩
  rw [e, e2]
  congr 1
  omega
theorem sorted_range_key {r : Addr} {b : Int} {t u v : Tok} {f : Addr} {n : Nat} {Q : Value → Shared → Prop} (k : Nat → Int) (hh : A.handled = none) (hr : IsRange s.heap r 0 b 1 t u v) (hn : b = n) (hlen : n ≤ 100000) (hu : A.units + 2 < cLine)
    (turn : ∀ (i : Nat) (tt : Tok), i < n → ∀ (h : Heap) (tk : Nat), (∀ b o, s.heap.get? b = some o → h.get? b = some o) →
      wpAny (model prog w) A.in1.in1 (call (.ref f) [.int (i : Int) tt]) (KeyPure (.int (k i)) { s with heap := h, toks := tk }) (fun _ _ => False) { s with heap := h, toks := tk })
    (fin : ∀ (out : List Value) (c : Nat) (g h' : Heap) (tk : Nat) (p : Addr), (∀ b o, s.heap.get? b = some o → g.get? b = some o) → (∀ b o, g.get? b = some o → h'.get? b = some o) → g.objs.size ≤ p → h'.get? p = some (seqObj "list" out.toArray c) → out.length = n →
      EachIs (fun v (i : Nat) => ∃ t, v = .int (i : Int) t) out ((List.range n).mergeSort (dataLe false fun i => .int (k i))) → Q (.ref p) { s with heap := h', toks := tk }) :
    wpAny (model prog w) A (call (.builtin "sorted") [.ref r] [(Str.ofString "key", .ref f)]) Q E s := by
  refine call_function_entry_kw kind_sorted plain_sorted entry_sorted (ksk_s1 _ _) ?_
  unfold Builtin.«sorted»
  refine wpAny_bind (m := checkCount "sorted" 1 1 _) (wpAny_pure ?_)
  refine wpAny_bind (L2.collect_range (n := n) (A := A.in1) hh hr (small_one (by omega) (by omega) (by omega) (by omega)) (by rw [rangeSize_one]; split <;> omega) (by omega) fun h1 tk1 acc hk hacc => ?_)
  have hal : acc.toList.length = n := by rw [Array.length_toList]; exact hacc.1
  have eR := each_range hal fun j v hj => hacc.2 j v (by simpa using hj)
  have hz : acc.toList.length ≤ sizeLine := by rw [hal]; exact Nat.le_trans hlen (by decide)
  refine wpAny_bind (wpAny_newList ?_ hz)
  have hL : (h1.push (seqObj "list" acc.toList.toArray 0)).get? h1.objs.size = some (seqObj "list" acc.toList.toArray 0) := Heap.get?_push_size _ rfl
  refine wpAny_bind (wpAny_holding (wpAny_call_entry_kw slot_list_sort ⟨_, hL, rfl⟩ entry_list_sort ?body (ksk_l1 _ _)))
  rw [ksk_t1]
  have up : ∀ {g : Heap}, KeepsBut h1.objs.size (h1.push (seqObj "list" acc.toList.toArray 0)) g → ∀ b o, s.heap.get? b = some o → g.get? b = some o := fun {g} kp b o q =>
    kp b o (Nat.ne_of_lt (Heap.lt_size (hk b o q))) (Heap.get?_push_of_some _ (hk b o q))
  refine keyH_tree (kz := (List.range n).map fun i => PyData.int (k i)) (s := { s with heap := h1.push (seqObj "list" acc.toList.toArray 0), toks := tk1 }) hL (by rw [List.length_map, List.length_range]; exact hal.symm) hz ?al ?so ?un
    (keyH_turns (s := { s with heap := h1.push (seqObj "list" acc.toList.toArray 0), toks := tk1 }) eR fun v x hR hx h tk kp => ?_) fun h' tk out c kp hD ko => ⟨_, rfl, ?_⟩
  case al =>
    intro d hd d' hd'
    obtain ⟨i, _, rfl⟩ := List.mem_map.mp hd
    obtain ⟨j, _, rfl⟩ := List.mem_map.mp hd'
    rfl
  case so =>
    refine .inr fun d hd => ?_
    obtain ⟨i, _, rfl⟩ := List.mem_map.mp hd
    exact ⟨(fun e => nomatch e), (fun xs e => nomatch e)⟩
  case un =>
    intro d hd
    obtain ⟨i, _, rfl⟩ := List.mem_map.mp hd
    show A.units + 1 + 1 + 0 < cLine
    omega
  · obtain ⟨tt, rfl⟩ := hR
    exact turn x tt (List.mem_range.mp hx) h tk (up kp)
  · refine wpAny_pure ⟨_, rfl, ?_⟩
    refine fin out c h1 h' tk h1.objs.size hk (fun b o q => kp b o (Nat.ne_of_lt (Heap.lt_size q)) (Heap.get?_push_of_some _ q)) (Nat.le_refl _) hD ?_ (keyedOut_each (fun i => PyData.int (k i)) ko eR)
    · exact (ko.length (by rw [List.length_map, List.length_range]; exact hal.symm)).trans hal
end
/-! ### the order -/
def leK (k : Nat → Int) (i j : Nat) : Bool := decide (k i ≤ k j)
def orderOf (ns : List Int) : List Nat := (List.range ns.length).mergeSort (leK fun i => ns.getD i 0)
theorem dataLe_int (k : Nat → Int) (i j : Nat) : dataLe false (fun i => PyData.int (k i)) i j = leK k i j := by
  show (!(decide (k j < k i) || (!decide (k i < k j) && false))) = decide (k i ≤ k j)
  rw [Bool.and_false, Bool.or_false]
  by_cases h : k j < k i
  · rw [decide_eq_true h, decide_eq_false (by omega)]
    rfl
  · rw [decide_eq_false h, decide_eq_true (by omega)]
    rfl
theorem vals_each {out : List Value} {is : List Nat} (h : EachIs (fun v (i : Nat) => ∃ t, v = .int (i : Int) t) out is) : L2.Vals (is.map fun (i : Nat) => L2.V.int (i : Int)) out := by
  induction h with
  | nil => exact .nil
  | cons h _ ih => exact .cons h ih
end Fp
namespace Fp
open PySem PySem.Spec PyProof.Rows L2 LamX
section
variable {X : Cx}
theorem cr_range1 : CallR X (.type "range") (fun vs H Q => ∃ j, vs = [V.int j] ∧ ∀ p, H p = none → Q (.ref p) (upd H p (.rng 0 j))) := by
  intro pins s σ H vs us Q I r h
  obtain ⟨j, rfl, q⟩ := h
  obtain ⟨u, rfl, t, rfl⟩ := vals1 r
  refine call_range_1 ⟨.ref s.heap.objs.size, upd H s.heap.objs.size (.rng 0 j), I.laid (t' := s.toks + 1 + 1) (fun b o e => Heap.get?_push_of_some _ e) (Nat.le_refl _) ?_, rfl, q _ (I.hok.fresh (Nat.le_refl _))⟩
  exact ⟨_, _, _, Heap.get?_push_size _ rfl⟩
/-- sorted(range(len(xs)), key=lambda i: xs[i]): l in slot iL holds xs -/
def tSortLam (T : List (Addr × Str)) (iL : Nat) (ta : TA) : TE := fun σ H Q => ta σ H fun vs H1 => ∃ (r l : Addr) (ns : List Int), vs = [.ref r] ∧ H1 r = some (.rng 0 (ns.length : Int)) ∧ Tabs T H1 ∧ σ[iL]? = some (some (.ref l)) ∧ H1 l = some (.lst (ns.map V.int)) ∧ ns.length ≤ 1000 ∧
  ∀ p H2, ExtN H1 H2 → Tabs T H2 → H2 p = none → Q (.ref p) (upd H2 p (.lst ((orderOf ns).map fun (i : Nat) => V.int (i : Int))))
theorem pe_sortLam {T : List (Addr × Str)} {c P : Addr} {iL k : Nat} {e : Expr} {ta : TA} {params : Arguments} {scope : Scope} {xL xP : Str} {p p1 p2 p3 lpos kpos pos : Pos} (hg : Gl X "sorted") (hm : X.mg "sorted" = none) (ha : PA X [e] ta)
    (TB : TabB X.base X.mg c P) (hcode : X.env.code = .ref c) (hmT : (P, X.env.qual ++ "<lambda>") ∈ T) (hu : ∀ p ∈ T, p.1 = P → p.2 = X.env.qual ++ "<lambda>") (hr : Room k X.A) (hN : X.N[iL]? = some xL)
    (hcalm : X.calm = true)
    (hcL : X.env.scope.names.lookup xL = some .cell) (hkind : scope.kind = .function) (hco : scope.isCoroutine = false) (hgen : scope.isGenerator = false) (hnm : scope.names = [(xP, .local), (xL, .free)]) (hne : (xP == xL) = false)
    (hdef : defaultsOf params X.env = ([], []))
    (hbind : ∀ (q : Str) (cl : List (Str × Addr)) (pm cv ctv v : Value), bindArgs (PySem.W.kla_fn "<lambda>" q params (.Subscript (.Name xL p1) (.Name xP p2) p3) scope cl pm cv ctv) ⟨[v], []⟩ = pure [(xP, v)])
    (hd1 : (xL == ("__debug__" : Str)) = false := by decide) (hd2 : (xP == ("__debug__" : Str)) = false := by decide) (hd3 : (xL == ("__classdict__" : Str)) = false := by decide)
    (he : backTo pos (starEach [e] X.env) = (false, eval e X.env) :: backTo pos (starEach [] X.env) := by rfl) (hpl : (backTo pos (starEach [e] X.env)).any (·.1) = false := by rfl) :
    PE X (.Call (.Name "sorted" p) [e] [⟨some "key", .Lambda params (.Subscript (.Name xL p1) (.Name xP p2) p3) scope lpos, kpos⟩] pos) (tSortLam T iL ta) := by
  refine ⟨fun pins s σ H Q I h => ?_⟩
  refine wpAny_Call_Name_kw (ld_blt I hg hm (show bootBuiltins "sorted" = some (.builtin "sorted") by decide +kernel) ?_)
  refine PyProof.Rows.callWith_kw (thn (ha.run pos pins s σ H _ I h) fun us s1 ⟨vs, H1, I1, r1, q1⟩ => ?_) he hpl rfl rfl
  obtain ⟨r, l, ns, rfl, hrng, hT, hσ, hl, hlen, q⟩ := q1
  obtain ⟨u1, rfl, e1⟩ := vals1 r1
  obtain rfl : u1 = Value.ref r := e1
  show wpAny _ _ (evalAll ((do let v ← eval (.Lambda params (.Subscript (.Name xL p1) (.Name xP p2) p3) scope lpos) X.env; standAt pos; pure v) :: [])) _ _ s1
  refine wpAny_evalAll_cons (wpAny_bind (lam_make2 I1 TB hcode hmT hu hT hdef (fun y hy ey => ?_) fun f c' pm ctv H2 s2 I2 eN T2 hf hfn hfr hco2 => wpAny_bind (wpAny_standAt (wpAny_pure (wpAny_evalAll_nil ?_)))))
  · rw [hnm] at hy
    rcases List.mem_cons.mp hy with z | z
    · rw [z] at ey
      cases ey
    · rw [List.mem_singleton.mp z]
      exact I1.ok.has _ (.inl hcL)
  show wpAny _ _ (call (.builtin "sorted") [.ref r] [(Str.ofString "key", .ref f)]) _ _ _
  have hr2 : H2 r = some (.rng 0 (ns.length : Int)) := eN r _ hrng (fun ps z => by cases z)
  have hl2 : H2 l = some (.lst (ns.map V.int)) := eN l _ hl (fun ps z => by cases z)
  obtain ⟨t, u, v, hrr⟩ := I2.hok r _ hr2
  obtain ⟨hz, its, cn, hv, hget⟩ := I2.hok l _ hl2
  obtain ⟨m, hn, hloc⟩ := I2.loc
  obtain ⟨ul, rul, look⟩ := hloc iL xL (.ref l) hN hσ (.inr (.inl hcL))
  obtain rfl : ul = Value.ref l := rul
  obtain ⟨cL, hcl, hcell⟩ : ∃ cL, X.env.cells.lookup xL = some cL ∧ s2.heap.IsCell cL (some (.ref l)) := by
    rcases look with ⟨hk, _⟩ | ⟨_, c3, h1, h2⟩
    · have hk : X.env.scope.names.lookup xL = some .local := hk
      rw [hcL] at hk
      cases hk
    · exact ⟨c3, h1, h2⟩
  have hclo : (cloFrom X.env.cells scope.names []).lookup xL = some cL := by
    rw [hnm]
    show (cloFrom X.env.cells [(xL, .free)] []).lookup xL = some cL
    show ([(xL, (X.env.cells.lookup xL).getD 0)] : List (Str × Addr)).lookup xL = some cL
    rw [hcl]
    simp [List.lookup]
  obtain ⟨⟨oc, cvs, ct, hoc, hdc, hvc⟩, _, _⟩ := I2.hok c' _ hco2
  refine sorted_range_key (n := ns.length) (fun i => ns.getD i 0) (I2.ok.hd hcalm) hrr rfl (by omega) (by have := hr.un; omega) (fun i tt hi h tk kp => ?_) fun out c g h' tk p kg gh hgp hp lo each => ?_
  · have hx : (ns.map V.int)[i]? = some (.int (ns.getD i 0)) := by
      rw [List.getElem?_map, List.getElem?_eq_getElem hi, List.getD_eq_getElem?_getD, List.getElem?_eq_getElem hi]
      rfl
    obtain ⟨w', ew, tx, rfl⟩ := hv.get hx
    obtain ⟨oC, hoC, hdC⟩ := hcell
    refine key_turn (A := X.A.in1.in1) (cL := cL) (a := l) (its := its.toArray) (by show X.A.depth < recursionLimit; have := hr.dp; omega) (kp _ _ hf) hkind hco hgen ?_ ?_ ?_ hclo ⟨oC, kp _ _ hoC, hdC⟩ ⟨oc, cvs, ct, kp _ _ hoc, hdc, hvc⟩ (fun v => hbind _ _ _ _ _ v) (I2.nolimit.keeps kp) ⟨_, kp _ _ hget, rfl, cn, rfl⟩ (by omega) (by omega) (by simpa using ew) hd1 hd2 hd3
    · intro y hy
      rw [hnm] at hy
      rcases List.mem_cons.mp hy with z | z
      · rw [z]
        exact (fun e => nomatch e)
      · rw [List.mem_singleton.mp z]
        exact (fun e => nomatch e)
    · rw [hnm]
      simp [List.lookup]
    · rw [hnm]
      have : (xL == xP) = false := by
        rw [← Bool.not_eq_true] at hne ⊢
        intro z
        exact hne (by rw [beq_iff_eq] at z ⊢; exact z.symm)
      simp [List.lookup, this]
  · have I3 : Inv X pins σ H2 { s2 with heap := g, toks := tk } := I2.kept kg
    have fr : H2 p = none := I3.hok.fresh hgp
    have each2 : PySem.W.EachIs (fun v (i : Nat) => ∃ t, v = .int (i : Int) t) out (orderOf ns) := by
      have es : (List.range ns.length).mergeSort (PySem.W.dataLe false fun i => PyData.int (ns.getD i 0)) = orderOf ns := PySem.W.sort_congr fun a _ b _ => dataLe_int _ a b
      rw [← es]
      exact each
    have ol : (orderOf ns).length = ns.length := by
      unfold orderOf
      rw [List.length_mergeSort, List.length_range]
    have I4 : Inv X pins σ (upd H2 p (.lst ((orderOf ns).map fun (i : Nat) => V.int (i : Int)))) { s2 with heap := h', toks := tk } := I3.laid (t' := tk) gh hgp ⟨by rw [List.length_map, ol]; exact sz (by omega), out, c, vals_each each2, hp⟩
    exact ⟨.ref p, _, I4, rfl, q p H2 eN T2 fr⟩
end
end Fp

set_option Elab.async false
set_option linter.all false
set_option maxRecDepth 100000
set_option maxHeartbeats 4000000
/-! words by lengths: the mathematics. -/
namespace Fp
open PySem PyProof.Rows
/-! ### the order by buckets -/
theorem leK_total (k : Nat → Int) : PySem.W.TotalLe (leK k) where
  trans := fun a b c h1 h2 => by
    unfold leK at *
    have := of_decide_eq_true h1
    have := of_decide_eq_true h2
    exact decide_eq_true (by omega)
  total := fun a b => by
    unfold leK
    by_cases h : k a ≤ k b
    · exact .inl (decide_eq_true h)
    · exact .inr (decide_eq_true (by omega))
def buckets (k : Nat → Int) (n : Nat) : List Nat := (List.range 13).flatMap fun (v : Nat) => (List.range n).filter fun (i : Nat) => decide (k i = (v : Int))
theorem flat_one {α : Type} (X : List α) (c : Nat) : ∀ l : List Nat, l.Nodup → (l.flatMap fun v => if v = c then X else []) = if c ∈ l then X else []
  | [], _ => rfl
  | v :: r, h => by
    have h1 := List.nodup_cons.mp h
    have ih := flat_one X c r h1.2
    rw [List.flatMap_cons, ih]
    by_cases e : v = c
    · subst e
      rw [if_pos rfl, if_neg h1.1, if_pos (List.mem_cons_self ..), List.append_nil]
    · rw [if_neg e, List.nil_append]
      by_cases m : c ∈ r
      · rw [if_pos m, if_pos (List.mem_cons_of_mem _ m)]
      · rw [if_neg m, if_neg (fun z => by
          rcases List.mem_cons.mp z with z | z
          · exact e z.symm
          · exact m z)]
theorem rank_eq (k : Nat → Int) (c a : Nat) : PySem.W.sameRank (leK k) c a = decide (k a = k c) := by
  unfold PySem.W.sameRank leK
  by_cases h : k a = k c
  · rw [decide_eq_true h, decide_eq_true (by omega), decide_eq_true (by omega)]
    rfl
  · rw [decide_eq_false h]
    by_cases h2 : k c ≤ k a
    · rw [decide_eq_true h2, decide_eq_false (by omega)]
      rfl
    · rw [decide_eq_false h2]
      rfl
theorem order_buckets (k : Nat → Int) (n : Nat) (h : ∀ i, i < n → 0 ≤ k i ∧ k i ≤ 12) : (List.range n).mergeSort (leK k) = buckets k n := by
  symm
  refine PySem.W.sort_unique (leK_total k) ?_ fun c => ?_
  · unfold buckets
    rw [List.pairwise_flatMap]
    refine ⟨fun v _ => ?_, ?_⟩
    · refine List.Pairwise.imp_of_mem (fun {a b} ha hb _ => ?_) (List.Pairwise.filter _ List.pairwise_lt_range)
      have e1 := of_decide_eq_true (List.mem_filter.mp ha).2
      have e2 := of_decide_eq_true (List.mem_filter.mp hb).2
      exact decide_eq_true (by omega)
    · refine List.Pairwise.imp (fun {v v'} hv x hx y hy => ?_) List.pairwise_lt_range
      have e1 := of_decide_eq_true (List.mem_filter.mp hx).2
      have e2 := of_decide_eq_true (List.mem_filter.mp hy).2
      exact decide_eq_true (by omega)
  · have eq : PySem.W.sameRank (leK k) c = fun a => decide (k a = k c) := funext fun a => rank_eq k c a
    rw [eq]
    unfold buckets
    rw [List.filter_flatMap]
    by_cases hc : 0 ≤ k c ∧ k c ≤ 12
    · obtain ⟨vc, hvc⟩ := Int.eq_ofNat_of_zero_le hc.1
      have e : (fun v : Nat => ((List.range n).filter fun i => decide (k i = (v : Int))).filter fun a => decide (k a = k c)) = fun v => if v = vc then (List.range n).filter fun a => decide (k a = k c) else [] := by
        funext v
        by_cases ev : v = vc
        · subst ev
          rw [if_pos rfl, hvc, List.filter_filter]
          simp
        · rw [if_neg ev, List.filter_filter]
          apply List.filter_eq_nil_iff.mpr
          intro a _ z
          rw [Bool.and_eq_true, decide_eq_true_eq, decide_eq_true_eq] at z
          omega
      rw [e, flat_one _ _ _ List.nodup_range, if_pos (List.mem_range.mpr (by omega))]
    · have e1 : (List.range n).filter (fun a => decide (k a = k c)) = [] := by
        apply List.filter_eq_nil_iff.mpr
        intro a ha z
        have := h a (List.mem_range.mp ha)
        have := of_decide_eq_true z
        exact hc (by omega)
      rw [e1]
      apply List.flatMap_eq_nil_iff.mpr
      intro v _
      rw [List.filter_filter]
      apply List.filter_eq_nil_iff.mpr
      intro a ha z
      rw [Bool.and_eq_true, decide_eq_true_eq, decide_eq_true_eq] at z
      have := h a (List.mem_range.mp ha)
      exact hc (by omega)
/-! ### words -/
def lastOne : List Nat → Option Nat
  | [] => none
  | c :: r => match lastOne r with
    | some i => some (i + 1)
    | none => if c = 49 then some 0 else none
theorem lastOne_spec : ∀ w : List Nat, (lastOne w = none ∧ ∀ i : Nat, w[i]? ≠ some 49) ∨ ∃ i : Nat, lastOne w = some i ∧ w[i]? = some 49 ∧ ∀ k : Nat, i < k → w[k]? ≠ some 49
  | [] => .inl ⟨rfl, fun i h => by simp at h⟩
  | c :: r => by
    rcases lastOne_spec r with ⟨e, h⟩ | ⟨i, e, h1, h2⟩
    · by_cases hc : c = 49
      · refine .inr ⟨0, ?_, ?_, fun k hk => ?_⟩
        · show (match lastOne r with | some i => some (i + 1) | none => if c = 49 then some 0 else none) = some 0
          rw [e]
          exact if_pos hc
        · rw [hc]
          rfl
        · obtain ⟨j, rfl⟩ : ∃ j, k = j + 1 := ⟨k - 1, by omega⟩
          exact h j
      · refine .inl ⟨?_, fun i => ?_⟩
        · show (match lastOne r with | some i => some (i + 1) | none => if c = 49 then some 0 else none) = none
          rw [e]
          exact if_neg hc
        · cases i with
          | zero => exact fun z => hc (Option.some.inj z)
          | succ j => exact h j
    · refine .inr ⟨i + 1, ?_, h1, fun k hk => ?_⟩
      · show (match lastOne r with | some i => some (i + 1) | none => if c = 49 then some 0 else none) = some (i + 1)
        rw [e]
      · obtain ⟨j, rfl⟩ : ∃ j, k = j + 1 := ⟨k - 1, by omega⟩
        exact h2 j (by omega)
def lessW (w : List Nat) : List Nat := match lastOne w with
  | none => []
  | some i => w.take i ++ 48 :: List.replicate (w.length - i - 1) 49
def stepW (ns : List Nat) (st : List (List Nat) × Option (List Nat)) (p : Nat) : List (List Nat) × Option (List Nat) :=
  let b := match st.2 with
    | none => []
    | some w => lessW w
  let a := b ++ List.replicate (ns.getD p 0 - b.length) 49
  (st.1.set p a, some a)
def okW (ns : List Nat) : List Nat → List (List Nat) × Option (List Nat) → Bool
  | [], _ => true
  | p :: r, st => (match st.2 with
    | none => true
    | some w => (lastOne w).isSome) && okW ns r (stepW ns st p)
def iv (ns : List Nat) : List Int := ns.map fun (n : Nat) => (n : Int)
def startW (ns : List Nat) : List (List Nat) × Option (List Nat) := (List.replicate ns.length [], none)
def wordsOf (ns : List Nat) : List (List Nat) := ((buckets (fun i => (iv ns).getD i 0) ns.length).foldl (stepW ns) (startW ns)).1
def lightL : List Nat := [6, 4, 4, 4, 4, 4, 5, 5, 5, 5, 6, 6, 6, 6, 6, 6, 4, 5, 6, 4]
def darkL : List Nat := [7, 2, 3, 3, 4, 4, 5, 5, 5, 6, 6, 6, 7, 7, 7, 7, 6, 7, 7, 7]
def bitsVal (w : List Nat) : Nat := w.foldl (fun n c => 2 * n + if c = 49 then 1 else 0) 0
def bitsOf : Nat → Nat → List Nat → List Nat
  | 0, _, acc => acc
  | k + 1, n, acc => bitsOf k (n / 2) ((48 + n % 2) :: acc)
def lawLess (w : List Nat) : Option (List Nat) := if bitsVal w = 0 then none else some (bitsOf w.length (bitsVal w - 1) [])
def stepL (ns : List Nat) (len : Nat) (st : Option (List (List Nat) × List Nat)) (p : Nat) : Option (List (List Nat) × List Nat) := match st with
  | none => none
  | some (f, l) => if ns.getD p 0 = len then (match (if l = [] then some [] else lawLess l) with
      | none => none
      | some b => some (f.set p (b ++ List.replicate (len - b.length) 49), b ++ List.replicate (len - b.length) 49)) else some (f, l)
def rowL (ns : List Nat) (st : Option (List (List Nat) × List Nat)) (len : Nat) : Option (List (List Nat) × List Nat) := (List.range ns.length).foldl (stepL ns len) st
def lawW (ns : List Nat) : Option (List (List Nat) × List Nat) := ((List.range 12).map (· + 1)).foldl (rowL ns) (some (List.replicate ns.length [], []))
theorem light_ok : okW lightL (buckets (fun i => (iv lightL).getD i 0) lightL.length) (startW lightL) = true := by decide +kernel
theorem dark_ok : okW darkL (buckets (fun i => (iv darkL).getD i 0) darkL.length) (startW darkL) = true := by decide +kernel
theorem light_same : (lawW lightL).map (·.1) = some (wordsOf lightL) := by decide +kernel
theorem dark_same : (lawW darkL).map (·.1) = some (wordsOf darkL) := by decide +kernel
theorem third_some : (lawW [1, 3, 3, 3, 5, 5, 6, 6, 6]).isSome = true := by decide +kernel

theorem okW_at {ns : List Nat} : ∀ (ord : List Nat) (st0 : List (List Nat) × Option (List Nat)) (i p : Nat), ord[i]? = some p → okW ns ord st0 = true → ∀ w, ((ord.take i).foldl (stepW ns) st0).2 = some w → ∃ j, lastOne w = some j
  | [], _, i, p, h, _ => by simp at h
  | q :: r, st0, 0, p, h, ok => fun w hw => by
    unfold okW at ok
    rw [Bool.and_eq_true] at ok
    have h1 := ok.1
    have hw : st0.2 = some w := hw
    rw [hw] at h1
    exact Option.isSome_iff_exists.mp h1
  | q :: r, st0, i + 1, p, h, ok => by
    unfold okW at ok
    rw [Bool.and_eq_true] at ok
    exact okW_at r (stepW ns st0 q) i p h ok.2
def LenW (st : List (List Nat) × Option (List Nat)) : Prop := ∀ w, st.2 = some w → w.length ≤ 12
theorem lessW_le (w : List Nat) : (lessW w).length ≤ w.length := by
  unfold lessW
  rcases lastOne_spec w with ⟨e, _⟩ | ⟨i, e, h1, _⟩
  · rw [e]
    exact Nat.zero_le _
  · rw [e]
    have := (List.getElem?_eq_some_iff.mp h1).1
    show (w.take i ++ 48 :: List.replicate (w.length - i - 1) 49).length ≤ w.length
    rw [List.length_append, List.length_cons, List.length_replicate, List.length_take]
    omega
theorem lenW_step {ns : List Nat} (hn : ∀ n ∈ ns, n ≤ 12) {st : List (List Nat) × Option (List Nat)} (h : LenW st) (p : Nat) : LenW (stepW ns st p) := by
  intro w hw
  have hg : ns.getD p 0 ≤ 12 := by
    rw [List.getD_eq_getElem?_getD]
    cases e : ns[p]? with
    | none => exact Nat.zero_le _
    | some n => exact hn n (List.mem_of_getElem? e)
  have e : (match st.2 with | none => [] | some w => lessW w) ++ List.replicate (ns.getD p 0 - (match st.2 with | none => [] | some w => lessW w).length) 49 = w := Option.some.inj hw
  rw [← e, List.length_append, List.length_replicate]
  cases h2 : st.2 with
  | none => show 0 + (ns.getD p 0 - 0) ≤ 12; omega
  | some u =>
    have := h u h2
    have := lessW_le u
    show (lessW u).length + (ns.getD p 0 - (lessW u).length) ≤ 12
    omega
theorem lenW_fold {ns : List Nat} (hn : ∀ n ∈ ns, n ≤ 12) : ∀ (ord : List Nat) (st : List (List Nat) × Option (List Nat)), LenW st → LenW (ord.foldl (stepW ns) st)
  | [], _, h => h
  | p :: r, st, h => lenW_fold hn r _ (lenW_step hn h p)
theorem lenW_start (ns : List Nat) : LenW (startW ns) := fun w h => nomatch h
theorem words_len (ns : List Nat) : ∀ (ord : List Nat) (st : List (List Nat) × Option (List Nat)), (ord.foldl (stepW ns) st).1.length = st.1.length
  | [], _ => rfl
  | p :: r, st => by
    rw [List.foldl_cons, words_len ns r]
    exact List.length_set
theorem mem_buckets {k : Nat → Int} {n p : Nat} (h : p ∈ buckets k n) : p < n := by
  unfold buckets at h
  obtain ⟨v, _, hv⟩ := List.mem_flatMap.mp h
  exact List.mem_range.mp (List.mem_filter.mp hv).1
theorem iv_len (ns : List Nat) : (iv ns).length = ns.length := List.length_map ..
theorem order_iv {ns : List Nat} (hn : ∀ n ∈ ns, n ≤ 12) : orderOf (iv ns) = buckets (fun i => (iv ns).getD i 0) ns.length := by
  unfold orderOf
  rw [iv_len]
  refine order_buckets _ _ fun i hi => ?_
  have e : (iv ns).getD i 0 = (ns[i] : Int) := by
    unfold iv
    rw [List.getD_eq_getElem?_getD, List.getElem?_map, List.getElem?_eq_getElem hi]
    rfl
  have := hn ns[i] (List.getElem_mem hi)
  show 0 ≤ (iv ns).getD i 0 ∧ (iv ns).getD i 0 ≤ 12
  rw [e]
  omega
theorem lens_light : ∀ w ∈ Fp.wordsOf lightL, w.length ≤ 12 := by decide +kernel
theorem lens_dark : ∀ w ∈ Fp.wordsOf darkL, w.length ≤ 12 := by decide +kernel
theorem len_light : (Fp.wordsOf lightL).length = 20 := by decide +kernel
theorem len_dark : (Fp.wordsOf darkL).length = 20 := by decide +kernel
def runT (W : List (List Nat)) (r : Nat) : List Nat := if r < 16 then W.getD r [] else W.getD (15 + r / 16) [] ++ W.getD (r - r / 16 * 16) []
theorem foldl_keep {α β : Type} (f : Option α → β → Option α) (h : ∀ b, f none b = none) : ∀ l : List β, l.foldl f none = none
  | [] => rfl
  | b :: r => by
    rw [List.foldl_cons, h]
    exact foldl_keep f h r
theorem fold_take {α β : Type} (f : Option α → β → Option α) (h : ∀ b, f none b = none) (l : List β) (s : Option α) (i : Nat) (e : (l.take i).foldl f s = none) : l.foldl f s = none := by
  rw [← List.take_append_drop i l, List.foldl_append, e]
  exact foldl_keep f h _
theorem stepL_none (ns : List Nat) (len p : Nat) : stepL ns len none p = none := rfl
theorem rowL_none (ns : List Nat) (len : Nat) : rowL ns none len = none := foldl_keep _ (stepL_none ns len) _
def ls12 : List Nat := (List.range 12).map (· + 1)
theorem ls12_at {i : Nat} (h : i < 12) : ls12[i]? = some (i + 1) := by
  unfold ls12
  rw [List.getElem?_map, List.getElem?_range h]
  rfl
theorem lawW_eq (ns : List Nat) : lawW ns = ls12.foldl (rowL ns) (some (List.replicate ns.length [], [])) := rfl
theorem lawLess_len {l b : List Nat} (h : lawLess l = some b) : b.length = l.length := by
  have key : ∀ (k n : Nat) (acc : List Nat), (bitsOf k n acc).length = k + acc.length := by
    intro k
    induction k with
    | zero => intro n acc; show acc.length = 0 + acc.length; omega
    | succ k ih =>
      intro n acc
      show (bitsOf k (n / 2) ((48 + n % 2) :: acc)).length = _
      rw [ih, List.length_cons]
      omega
  unfold lawLess at h
  split at h
  · cases h
  · have := Option.some.inj h
    rw [← this, key]
    rfl
theorem stepL_no {ns : List Nat} {len p : Nat} {f : List (List Nat)} {l : List Nat} (h : ¬ ns.getD p 0 = len) : stepL ns len (some (f, l)) p = some (f, l) := if_neg h
theorem stepL_yes {ns : List Nat} {len p : Nat} {f : List (List Nat)} {l b : List Nat} (h : ns.getD p 0 = len) (hb : (if l = [] then some [] else lawLess l) = some b) :
    stepL ns len (some (f, l)) p = some (f.set p (b ++ List.replicate (len - b.length) 49), b ++ List.replicate (len - b.length) 49) := by
  refine (if_pos h).trans ?_
  rw [hb]
theorem stepL_bad {ns : List Nat} {len p : Nat} {f : List (List Nat)} {l : List Nat} (h : ns.getD p 0 = len) (hb : (if l = [] then some [] else lawLess l) = none) : stepL ns len (some (f, l)) p = none := by
  refine (if_pos h).trans ?_
  rw [hb]
end Fp

set_option Elab.async false
set_option linter.all false
set_option maxRecDepth 100000
set_option maxHeartbeats 4000000
/-! words by lengths: which lengths have words, and that no word begins another. -/
namespace Fp
open PySem PyProof.Rows
abbrev veB : List Value := [.type "ValueError", .type "Exception", .type "BaseException", .type "object"]
theorem exm_own {K : PySem.W.Frag} {S : Addr} (h1 : PySem.W.subIn K (.ref S) (.type "BaseException") = some true) (h2 : PySem.W.isClsIn K S = true) (h3 : PySem.W.typeIn K (.ref S) = some (.type "type")) (h4 : PySem.W.subIn K (.ref S) (.ref S) = some true) : PySem.W.exmOne K (.ref S) (.ref S) = some true := by
  unfold PySem.W.isClsIn at h2
  simp [PySem.W.exmOne, PySem.W.kitCls, h1, h2, h3, h4]
def wt (n : Nat) : Nat := 2 ^ (12 - n)
def sumW (ns ps : List Nat) : Nat := (ps.map fun p => wt (ns.getD p 0)).sum
def Bits (w : List Nat) : Prop := ∀ c ∈ w, c = 48 ∨ c = 49
def lo (w : List Nat) : Nat := bitsVal w * wt w.length
theorem val_from (w : List Nat) : ∀ a : Nat, w.foldl (fun n c => 2 * n + if c = 49 then 1 else 0) a = a * 2 ^ w.length + bitsVal w := by
  induction w with
  | nil => intro a; show a = a * 1 + 0; omega
  | cons c r ih =>
    intro a
    have e1 := ih (2 * a + if c = 49 then 1 else 0)
    have e2 := ih (2 * 0 + if c = 49 then 1 else 0)
    show r.foldl _ (2 * a + if c = 49 then 1 else 0) = a * 2 ^ (r.length + 1) + r.foldl _ (2 * 0 + if c = 49 then 1 else 0)
    rw [e1, e2, Nat.pow_succ, Nat.add_mul, Nat.mul_zero, Nat.zero_add, ← Nat.add_assoc]
    congr 2
    rw [Nat.mul_comm (2 ^ r.length) 2, ← Nat.mul_assoc, Nat.mul_comm a 2]
theorem val_app (u v : List Nat) : bitsVal (u ++ v) = bitsVal u * 2 ^ v.length + bitsVal v := by
  show (u ++ v).foldl _ 0 = _
  rw [List.foldl_append]
  exact val_from v _
theorem val_cons (c : Nat) (r : List Nat) : bitsVal (c :: r) = (if c = 49 then 1 else 0) * 2 ^ r.length + bitsVal r := by
  show r.foldl _ (2 * 0 + if c = 49 then 1 else 0) = _
  rw [val_from, Nat.mul_zero, Nat.zero_add]
theorem val_ones (n : Nat) : bitsVal (List.replicate n 49) + 1 = 2 ^ n := by
  induction n with
  | zero => rfl
  | succ k ih =>
    rw [List.replicate_succ, val_cons, if_pos rfl, List.length_replicate, Nat.one_mul, Nat.pow_succ, Nat.add_assoc, ih]
    omega
theorem val_lt (w : List Nat) : bitsVal w < 2 ^ w.length := by
  induction w with
  | nil => exact Nat.one_pos
  | cons c r ih =>
    rw [val_cons, List.length_cons, Nat.pow_succ]
    split <;> omega
theorem val_none {w : List Nat} (h : ∀ i : Nat, w[i]? ≠ some 49) : bitsVal w = 0 := by
  induction w with
  | nil => rfl
  | cons c r ih =>
    rw [val_cons, if_neg (fun e => h 0 (by rw [e]; rfl)), Nat.zero_mul, Nat.zero_add]
    exact ih fun i => h (i + 1)
theorem less_val {w : List Nat} {i : Nat} (hb : Bits w) (h : lastOne w = some i) : Bits (lessW w) ∧ (lessW w).length = w.length ∧ bitsVal (lessW w) + 1 = bitsVal w := by
  rcases lastOne_spec w with ⟨e, _⟩ | ⟨i2, e, h1, h2⟩
  · rw [e] at h
    cases h
  · rw [e] at h
    cases h
    obtain ⟨hi, h1'⟩ := List.getElem?_eq_some_iff.mp h1
    have ew : w = w.take i ++ 49 :: w.drop (i + 1) := by
      conv => lhs; rw [← List.take_append_drop i w]
      rw [List.drop_eq_getElem_cons hi, h1']
    have hz : bitsVal (w.drop (i + 1)) = 0 := val_none fun k => by
      rw [List.getElem?_drop]
      exact h2 _ (by omega)
    have dl : (w.drop (i + 1)).length = w.length - i - 1 := by rw [List.length_drop]; omega
    have el : lessW w = w.take i ++ 48 :: List.replicate (w.length - i - 1) 49 := by
      unfold lessW
      rw [e]
    refine ⟨fun c hc => ?_, ?_, ?_⟩
    · rw [el] at hc
      rcases List.mem_append.mp hc with z | z
      · exact hb c (List.mem_of_mem_take z)
      · rcases List.mem_cons.mp z with z | z
        · exact .inl z
        · exact .inr (List.mem_replicate.mp z).2
    · rw [el, List.length_append, List.length_cons, List.length_replicate, List.length_take]
      omega
    · have v1 : bitsVal w = bitsVal (w.take i) * 2 ^ (w.length - i - 1 + 1) + 2 ^ (w.length - i - 1) := by
        conv => lhs; rw [ew]
        rw [val_app, val_cons, if_pos rfl, hz, List.length_cons, dl, Nat.one_mul]
        rfl
      have v2 : bitsVal (lessW w) = bitsVal (w.take i) * 2 ^ (w.length - i - 1 + 1) + bitsVal (List.replicate (w.length - i - 1) 49) := by
        rw [el, val_app, val_cons, if_neg (by decide), List.length_cons, List.length_replicate, Nat.zero_mul, Nat.zero_add]
      rw [v1, v2, Nat.add_assoc, val_ones]
theorem new_word {u : List Nat} {v n : Nat} (hb : Bits u) (hl : u.length ≤ n) (hn : n ≤ 12) (hv : bitsVal u + 1 = v) : Bits (u ++ List.replicate (n - u.length) 49) ∧ (u ++ List.replicate (n - u.length) 49).length = n ∧ lo (u ++ List.replicate (n - u.length) 49) + wt n = v * wt u.length := by
  have l : (u ++ List.replicate (n - u.length) 49).length = n := by
    rw [List.length_append, List.length_replicate]
    omega
  refine ⟨fun c hc => ?_, l, ?_⟩
  · rcases List.mem_append.mp hc with z | z
    · exact hb c z
    · exact .inr (List.mem_replicate.mp z).2
  · unfold lo
    rw [l]
    have e : bitsVal (u ++ List.replicate (n - u.length) 49) + 1 = v * 2 ^ (n - u.length) := by
      rw [val_app, List.length_replicate, Nat.add_assoc, val_ones, ← hv, Nat.add_mul, Nat.one_mul]
    have e2 : bitsVal (u ++ List.replicate (n - u.length) 49) * wt n + wt n = (bitsVal (u ++ List.replicate (n - u.length) 49) + 1) * wt n := by
      rw [Nat.add_mul, Nat.one_mul]
    rw [e2, e, Nat.mul_assoc]
    congr 1
    unfold wt
    rw [← Nat.pow_add]
    congr 1
    omega
def Ap (u v : List Nat) : Prop := lo u + wt u.length ≤ lo v ∨ lo v + wt v.length ≤ lo u
structure Iv (ns done : List Nat) (st : List (List Nat) × Option (List Nat)) : Prop where
  len : st.1.length = ns.length
  no : st.2 = none → done = []
  last : ∀ w, st.2 = some w → Bits w ∧ w.length ≤ 12 ∧ lo w + sumW ns done = 4096
  each : ∀ p ∈ done, Bits (st.1.getD p []) ∧ (st.1.getD p []).length = ns.getD p 0 ∧ 4096 ≤ lo (st.1.getD p []) + sumW ns done
  apart : ∀ p ∈ done, ∀ q ∈ done, p ≠ q → Ap (st.1.getD p []) (st.1.getD q [])
theorem iv_start (ns : List Nat) : Iv ns [] (startW ns) where
  len := List.length_replicate
  no := fun _ => rfl
  last := fun w h => nomatch h
  each := fun p h => nomatch h
  apart := fun p h => nomatch h
theorem getD_set {l : List (List Nat)} {p q : Nat} {a : List Nat} (h : p < l.length) : (l.set p a).getD q [] = if p = q then a else l.getD q [] := by
  rw [List.getD_eq_getElem?_getD, List.getElem?_set]
  by_cases e : p = q
  · rw [if_pos e, if_pos e, if_pos h]
    rfl
  · rw [if_neg e, if_neg e, List.getD_eq_getElem?_getD]
theorem iv_step {ns done : List Nat} {st : List (List Nat) × Option (List Nat)} {p : Nat} (h : Iv ns done st) (hp : p < ns.length) (nd : p ∉ done) (h12 : ns.getD p 0 ≤ 12) (hs : ∀ w, st.2 = some w → w.length ≤ ns.getD p 0 ∧ ∃ i, lastOne w = some i) : Iv ns (p :: done) (stepW ns st p) ∧ ∀ w, (stepW ns st p).2 = some w → w.length = ns.getD p 0 := by
  obtain ⟨a, ea, ba, la, sa⟩ : ∃ a, stepW ns st p = (st.1.set p a, some a) ∧ Bits a ∧ a.length = ns.getD p 0 ∧ lo a + wt (ns.getD p 0) + sumW ns done = 4096 := by
    cases e : st.2 with
    | none =>
      have n := new_word (u := []) (v := 1) (n := ns.getD p 0) (fun c hc => nomatch hc) (Nat.zero_le _) h12 rfl
      refine ⟨_, by unfold stepW; rw [e], n.1, n.2.1, ?_⟩
      rw [h.no e, n.2.2]
      rfl
    | some w =>
      obtain ⟨hl, i, hi⟩ := hs w e
      obtain ⟨b1, b2, b3⟩ := h.last w e
      obtain ⟨c1, c2, c3⟩ := less_val b1 hi
      have n := new_word (u := lessW w) (v := bitsVal w) (n := ns.getD p 0) c1 (by omega) h12 c3
      refine ⟨_, by unfold stepW; rw [e], n.1, n.2.1, ?_⟩
      rw [n.2.2, c2]
      exact b3
  have sc : sumW ns (p :: done) = wt (ns.getD p 0) + sumW ns done := by
    unfold sumW
    rw [List.map_cons, List.sum_cons]
  have g : ∀ q, (st.1.set p a).getD q [] = if p = q then a else st.1.getD q [] := fun q => getD_set (by rw [h.len]; exact hp)
  rw [ea]
  refine ⟨⟨by rw [List.length_set]; exact h.len, (fun z => nomatch z), fun w hw => ?_, fun q hq => ?_, fun q hq r hr ne => ?_⟩, fun w hw => ?_⟩
  · cases hw
    exact ⟨ba, by omega, by rw [sc]; omega⟩
  · rw [g, sc]
    by_cases e : p = q
    · rw [if_pos e, ← e]
      exact ⟨ba, la, by omega⟩
    · rw [if_neg e]
      rcases List.mem_cons.mp hq with z | z
      · exact absurd z.symm e
      · have := h.each q z
        exact ⟨this.1, this.2.1, by omega⟩
  · show Ap ((st.1.set p a).getD q []) ((st.1.set p a).getD r [])
    rw [g, g]
    by_cases e : p = q
    · rw [if_pos e, if_neg (by omega)]
      rcases List.mem_cons.mp hr with z | z
      · omega
      · have := (h.each r z).2.2
        exact .inl (by rw [la]; omega)
    · rw [if_neg e]
      by_cases e2 : p = r
      · rw [if_pos e2]
        rcases List.mem_cons.mp hq with z | z
        · omega
        · have := (h.each q z).2.2
          exact .inr (by rw [la]; omega)
      · rw [if_neg e2]
        rcases List.mem_cons.mp hq with z | z
        · omega
        · rcases List.mem_cons.mp hr with y | y
          · omega
          · exact h.apart q z r y ne
  · cases hw
    exact la
theorem wt_pos (n : Nat) : 0 < wt n := Nat.pow_pos (by decide)
theorem iv_run {ns : List Nat} : ∀ (rest done : List Nat) (st : List (List Nat) × Option (List Nat)), Iv ns done st → rest.Nodup → (∀ p ∈ rest, p < ns.length ∧ p ∉ done ∧ ns.getD p 0 ≤ 12) → rest.Pairwise (fun p q => ns.getD p 0 ≤ ns.getD q 0) → (∀ w, st.2 = some w → ∀ p ∈ rest, w.length ≤ ns.getD p 0) →
    (okW ns rest st = true → Iv ns (rest.reverse ++ done) (rest.foldl (stepW ns) st)) ∧ (okW ns rest st = false → 4096 < sumW ns done + sumW ns rest)
  | [], done, st, h, _, _, _, _ => ⟨fun _ => h, fun z => nomatch z⟩
  | p :: r, done, st, h, nd, hp, so, hl => by
    have n1 := List.nodup_cons.mp nd
    have s1 := List.pairwise_cons.mp so
    have p1 := hp p (List.mem_cons_self ..)
    have sr : sumW ns (p :: r) = wt (ns.getD p 0) + sumW ns r := by
      unfold sumW
      rw [List.map_cons, List.sum_cons]
    by_cases ok : ∀ w, st.2 = some w → ∃ i, lastOne w = some i
    · have okr : okW ns (p :: r) st = okW ns r (stepW ns st p) := by
        show ((match st.2 with | none => true | some w => (lastOne w).isSome) && okW ns r (stepW ns st p)) = _
        cases e : st.2 with
        | none => rfl
        | some w =>
          obtain ⟨i, hi⟩ := ok w e
          show ((lastOne w).isSome && _) = _
          rw [hi]
          rfl
      obtain ⟨st1, st2⟩ := iv_step h p1.1 p1.2.1 p1.2.2 fun w hw => ⟨hl w hw p (List.mem_cons_self ..), ok w hw⟩
      have ih := iv_run r (p :: done) (stepW ns st p) st1 n1.2 (fun q hq => ?_) s1.2 (fun w hw q hq => ?_)
      · rw [okr]
        refine ⟨fun z => ?_, fun z => ?_⟩
        · have := ih.1 z
          rw [List.reverse_cons, List.append_assoc]
          exact this
        · have := ih.2 z
          have sc : sumW ns (p :: done) = wt (ns.getD p 0) + sumW ns done := by
            unfold sumW
            rw [List.map_cons, List.sum_cons]
          omega
      · have := hp q (List.mem_cons_of_mem _ hq)
        refine ⟨this.1, fun z => ?_, this.2.2⟩
        rcases List.mem_cons.mp z with y | y
        · exact n1.1 (y ▸ hq)
        · exact this.2.1 y
      · rw [st2 w hw]
        exact s1.1 q hq
    · obtain ⟨w, hw, no⟩ : ∃ w, st.2 = some w ∧ ¬ ∃ i, lastOne w = some i := by
        cases e : st.2 with
        | none => exact absurd (fun w hw => nomatch e.symm.trans hw) ok
        | some w => exact ⟨w, rfl, fun z => ok fun u hu => by rw [e] at hu; cases hu; exact z⟩
      have hz : lastOne w = none := by
        cases e : lastOne w with
        | none => rfl
        | some i => exact absurd ⟨i, e⟩ no
      have okf : okW ns (p :: r) st = false := by
        show ((match st.2 with | none => true | some w => (lastOne w).isSome) && okW ns r (stepW ns st p)) = false
        rw [hw]
        show ((lastOne w).isSome && _) = false
        rw [hz]
        rfl
      rw [okf]
      refine ⟨(fun z => nomatch z), fun _ => ?_⟩
      have l0 : lo w = 0 := by
        rcases lastOne_spec w with ⟨_, h2⟩ | ⟨i, e, _⟩
        · unfold lo
          rw [val_none h2, Nat.zero_mul]
        · exact absurd ⟨i, e⟩ no
      have := (h.last w hw).2.2
      have := wt_pos (ns.getD p 0)
      omega
theorem prefix_lo {u v : List Nat} (hv : v.length ≤ 12) (h : v.take u.length = u) : lo u ≤ lo v ∧ lo v < lo u + wt u.length := by
  have ll : u.length ≤ v.length := by
    have := congrArg List.length h
    rw [List.length_take] at this
    omega
  have ev : v = u ++ v.drop u.length := by
    conv => lhs; rw [← List.take_append_drop u.length v]
    rw [h]
  have e1 : bitsVal v = bitsVal u * 2 ^ (v.length - u.length) + bitsVal (v.drop u.length) := by
    conv => lhs; rw [ev]
    rw [val_app, List.length_drop]
  have e2 := val_lt (v.drop u.length)
  rw [List.length_drop] at e2
  have e3 : wt u.length = 2 ^ (v.length - u.length) * wt v.length := by
    unfold wt
    rw [← Nat.pow_add]
    congr 1
    omega
  unfold lo
  rw [e1, e3, Nat.add_mul, Nat.mul_assoc]
  have := wt_pos v.length
  refine ⟨Nat.le_add_right _ _, Nat.add_lt_add_left ?_ _⟩
  exact Nat.mul_lt_mul_of_pos_right e2 this
theorem ap_no {u v : List Nat} (hv : v.length ≤ 12) (h : Ap u v) : v.take u.length ≠ u := fun e => by
  have := prefix_lo hv e
  have := wt_pos v.length
  rcases h with z | z <;> omega
theorem sum_range (ns : List Nat) : sumW ns (List.range ns.length) = (ns.map wt).sum := by
  unfold sumW
  congr 1
  apply List.ext_getElem?
  intro i
  rw [List.getElem?_map, List.getElem?_map]
  by_cases h : i < ns.length
  · rw [List.getElem?_range h, List.getElem?_eq_getElem h, Option.map_some, Option.map_some, List.getD_eq_getElem?_getD, List.getElem?_eq_getElem h]
    rfl
  · rw [List.getElem?_eq_none (by rw [List.length_range]; omega), List.getElem?_eq_none (by omega)]
    rfl
theorem iv_getD (ns : List Nat) (p : Nat) : (iv ns).getD p 0 = ((ns.getD p 0 : Nat) : Int) := by
  unfold iv
  rw [List.getD_eq_getElem?_getD, List.getElem?_map, List.getD_eq_getElem?_getD]
  cases ns[p]? <;> rfl
/-- the whole: refused where the parts are too many; else the words fit and stand apart -/
theorem words_whole {ns : List Nat} (hn : ∀ n ∈ ns, n ≤ 12) :
    (okW ns (buckets (fun i => (iv ns).getD i 0) ns.length) (startW ns) = false → 4096 < (ns.map wt).sum) ∧
    (okW ns (buckets (fun i => (iv ns).getD i 0) ns.length) (startW ns) = true → (ns.map wt).sum ≤ 4096 ∧ (wordsOf ns).length = ns.length ∧ (∀ p, p < ns.length → Bits ((wordsOf ns).getD p []) ∧ ((wordsOf ns).getD p []).length = ns.getD p 0) ∧
      ∀ p q, p < ns.length → q < ns.length → p ≠ q → ((wordsOf ns).getD q []).take ((wordsOf ns).getD p []).length ≠ (wordsOf ns).getD p []) := by
  have ho := order_iv hn
  have perm : (orderOf (iv ns)).Perm (List.range ns.length) := by
    unfold orderOf
    rw [iv_len]
    exact List.mergeSort_perm ..
  have srt : (orderOf (iv ns)).Pairwise (fun p q => ns.getD p 0 ≤ ns.getD q 0) := by
    have tr : ∀ a b c : Nat, leK (fun i => (iv ns).getD i 0) a b = true → leK (fun i => (iv ns).getD i 0) b c = true → leK (fun i => (iv ns).getD i 0) a c = true := fun a b c h1 h2 => by
      unfold leK at *
      have := of_decide_eq_true h1
      have := of_decide_eq_true h2
      exact decide_eq_true (by omega)
    have to : ∀ a b : Nat, (leK (fun i => (iv ns).getD i 0) a b || leK (fun i => (iv ns).getD i 0) b a) = true := fun a b => by
      unfold leK
      rw [Bool.or_eq_true, decide_eq_true_eq, decide_eq_true_eq]
      omega
    have := List.pairwise_mergeSort tr to (List.range (iv ns).length)
    refine List.Pairwise.imp (fun {a b} h => ?_) this
    have h2 := of_decide_eq_true h
    have h3 : (iv ns).getD a 0 ≤ (iv ns).getD b 0 := h2
    rw [iv_getD, iv_getD] at h3
    omega
  rw [← ho]
  have hg : ∀ p, ns.getD p 0 ≤ 12 := fun p => by
    rw [List.getD_eq_getElem?_getD]
    cases e : ns[p]? with
    | none => exact Nat.zero_le _
    | some n => exact hn n (List.mem_of_getElem? e)
  have main := iv_run (ns := ns) (orderOf (iv ns)) [] (startW ns) (iv_start ns) (perm.nodup_iff.mpr List.nodup_range) (fun p hp => ⟨List.mem_range.mp (perm.mem_iff.mp hp), (fun z => nomatch z), hg p⟩) srt (fun w hw => nomatch hw)
  have es : sumW ns (orderOf (iv ns)) = (ns.map wt).sum := by
    rw [← sum_range]
    unfold sumW
    exact (perm.map _).sum_nat
  refine ⟨fun z => ?_, fun z => ?_⟩
  · have := main.2 z
    rw [es] at this
    have s0 : sumW ns [] = 0 := rfl
    omega
  · have I := main.1 z
    have hw : ((orderOf (iv ns)).foldl (stepW ns) (startW ns)).1 = wordsOf ns := by
      unfold wordsOf
      rw [ho]
    have sr : sumW ns ((orderOf (iv ns)).reverse ++ []) = (ns.map wt).sum := by
      rw [← es, List.append_nil]
      unfold sumW
      exact ((List.reverse_perm _).map _).sum_nat
    have mem : ∀ p, p < ns.length → p ∈ (orderOf (iv ns)).reverse ++ [] := fun p hp => by
      rw [List.append_nil, List.mem_reverse]
      exact perm.mem_iff.mpr (List.mem_range.mpr hp)
    refine ⟨?_, by rw [← hw]; exact I.len, fun p hp => ?_, fun p q hp hq ne => ?_⟩
    · rw [← sr]
      cases e : ((orderOf (iv ns)).foldl (stepW ns) (startW ns)).2 with
      | none =>
        rw [I.no e]
        exact Nat.zero_le _
      | some w =>
        have := (I.last w e).2.2
        omega
    · rw [← hw]
      have := I.each p (mem p hp)
      exact ⟨this.1, this.2.1⟩
    · rw [← hw]
      have l := (I.each q (mem q hq)).2.1
      exact ap_no (by rw [l]; exact hg q) (I.apart p (mem p hp) q (mem q hq) ne)
theorem okW_snoc {ns : List Nat} (p : Nat) : ∀ (l : List Nat) (st : List (List Nat) × Option (List Nat)), okW ns l st = true → (∀ w, (l.foldl (stepW ns) st).2 = some w → ∃ i, lastOne w = some i) → okW ns (l ++ [p]) st = true
  | [], st, _, h => by
    show ((match st.2 with | none => true | some w => (lastOne w).isSome) && true) = true
    cases e : st.2 with
    | none => rfl
    | some w =>
      obtain ⟨i, hi⟩ := h w e
      show ((lastOne w).isSome && true) = true
      rw [hi]
      rfl
  | q :: r, st, ok, h => by
    have ok : ((match st.2 with | none => true | some w => (lastOne w).isSome) && okW ns r (stepW ns st q)) = true := ok
    rw [Bool.and_eq_true] at ok
    show ((match st.2 with | none => true | some w => (lastOne w).isSome) && okW ns (r ++ [p]) (stepW ns st q)) = true
    rw [Bool.and_eq_true]
    exact ⟨ok.1, okW_snoc p r _ ok.2 h⟩
end Fp

set_option Elab.async false
set_option linter.all false
set_option maxRecDepth 100000
set_option maxHeartbeats 4000000
namespace K06
open PySem PySem.Spec PyProof.Rows L2 Fp
def topS (i : Nat) : Stmt := PySem.Challenge.pw_farpage_k06_whole_no_word_begins_another.main.body.getD i (.Pass ⟨0, 0, 0, 0⟩)
abbrev s_words_by : Stmt := topS 4
abbrev N_words_by : List Str := ["lengths", "words", "ahead", "place", "begin"]
abbrev P_words_by : List Str := ["lengths"]
theorem sc_words_by : FnScope N_words_by P_words_by (defScope s_words_by) := ⟨rfl, rfl, rfl, by decide +kernel, rfl, by decide +kernel, by decide +kernel⟩
abbrev s_making_order : Stmt := topS 5
abbrev N_making_order : List Str := ["lengths"]
abbrev P_making_order : List Str := ["lengths"]
theorem sc_making_order : FnScope N_making_order P_making_order (defScope s_making_order) := ⟨rfl, rfl, rfl, by decide +kernel, rfl, by decide +kernel, by decide +kernel⟩
abbrev s_one_less : Stmt := topS 6
abbrev N_one_less : List Str := ["word", "last"]
abbrev P_one_less : List Str := ["word"]
theorem sc_one_less : FnScope N_one_less P_one_less (defScope s_one_less) := ⟨rfl, rfl, rfl, by decide +kernel, rfl, by decide +kernel, by decide +kernel⟩
abbrev s_bag : Stmt := topS 8
abbrev N_bag : List Str := ["_law_script", "_law_at", "_law_cell", "_law_great"]
abbrev P_bag : List Str := ["_law_script", "_law_at"]
theorem sc_bag : FnScope N_bag P_bag (defScope s_bag) := ⟨rfl, rfl, rfl, by decide +kernel, rfl, by decide +kernel, by decide +kernel⟩
abbrev s_draw : Stmt := topS 9
abbrev N_draw : List Str := ["_law_bag_here", "_law_many", "_law_digit"]
abbrev P_draw : List Str := ["_law_bag_here", "_law_many"]
theorem sc_draw : FnScope N_draw P_draw (defScope s_draw) := ⟨rfl, rfl, rfl, by decide +kernel, rfl, by decide +kernel, by decide +kernel⟩
abbrev s_lengths : Stmt := topS 10
abbrev N_lengths : List Str := ["_law_bag_here", "_law_many", "_law_least", "_law_alone", "_law_found", "_law_k", "_law_length"]
abbrev P_lengths : List Str := ["_law_bag_here"]
theorem sc_lengths : FnScope N_lengths P_lengths (defScope s_lengths) := ⟨rfl, rfl, rfl, by decide +kernel, rfl, by decide +kernel, by decide +kernel⟩
abbrev s_asked : Stmt := topS 11
abbrev N_asked : List Str := ["_law_lengths_here", "_law_found"]
abbrev P_asked : List Str := ["_law_lengths_here"]
theorem sc_asked : FnScope N_asked P_asked (defScope s_asked) := ⟨rfl, rfl, rfl, by decide +kernel, rfl, by decide +kernel, by decide +kernel⟩
abbrev s_apart : Stmt := topS 12
abbrev N_apart : List Str := ["_law_words", "_law_k", "_law_j"]
abbrev P_apart : List Str := ["_law_words"]
theorem sc_apart : FnScope N_apart P_apart (defScope s_apart) := ⟨rfl, rfl, rfl, by decide +kernel, rfl, by decide +kernel, by decide +kernel⟩
abbrev s_fit : Stmt := topS 13
abbrev N_fit : List Str := ["_law_word", "_law_length", "_law_bit"]
abbrev P_fit : List Str := ["_law_word", "_law_length"]
theorem sc_fit : FnScope N_fit P_fit (defScope s_fit) := ⟨rfl, rfl, rfl, by decide +kernel, rfl, by decide +kernel, by decide +kernel⟩
abbrev s_law : Stmt := topS 14
abbrev N_law : List Str := ["_law_script", "_law_parts", "_law_k", "_law_lengths_here", "_law_words", "_law_length", "_law_word"]
abbrev P_law : List Str := ["_law_script"]
theorem sc_law : FnScope N_law P_law (defScope s_law) := ⟨rfl, rfl, rfl, by decide +kernel, rfl, by decide +kernel, by decide +kernel⟩
structure Ad where
  a_words_by : Addr
  d_words_by : FuncData
  a_making_order : Addr
  d_making_order : FuncData
  a_one_less : Addr
  d_one_less : FuncData
  a_bag : Addr
  d_bag : FuncData
  a_draw : Addr
  d_draw : FuncData
  a_lengths : Addr
  d_lengths : FuncData
  a_asked : Addr
  d_asked : FuncData
  a_apart : Addr
  d_apart : FuncData
  a_fit : Addr
  d_fit : FuncData
  a_law : Addr
  d_law : FuncData
  k_making_order : Addr
  p_making_order : Addr
  x_NoWords : Addr
structure Txt (w : World) (K : PySem.W.Frag) (mg : Str → Option Value) (base : Heap) (A : Ad) : Prop where
  F_words_by : Fun K "words_by" "words_by" s_words_by A.a_words_by A.d_words_by
  b_words_by : Binds K A.d_words_by P_words_by []
  g_words_by : mg "words_by" = some (.ref A.a_words_by)
  F_making_order : Fun K "making_order" "making_order" s_making_order A.a_making_order A.d_making_order
  b_making_order : Binds K A.d_making_order P_making_order []
  g_making_order : mg "making_order" = some (.ref A.a_making_order)
  F_one_less : Fun K "one_less" "one_less" s_one_less A.a_one_less A.d_one_less
  b_one_less : Binds K A.d_one_less P_one_less []
  g_one_less : mg "one_less" = some (.ref A.a_one_less)
  F_bag : Fun K "_law_bag" "_law_bag" s_bag A.a_bag A.d_bag
  b_bag : Binds K A.d_bag P_bag []
  g_bag : mg "_law_bag" = some (.ref A.a_bag)
  F_draw : Fun K "_law_draw" "_law_draw" s_draw A.a_draw A.d_draw
  b_draw : Binds K A.d_draw P_draw []
  g_draw : mg "_law_draw" = some (.ref A.a_draw)
  F_lengths : Fun K "_law_lengths" "_law_lengths" s_lengths A.a_lengths A.d_lengths
  b_lengths : Binds K A.d_lengths P_lengths []
  g_lengths : mg "_law_lengths" = some (.ref A.a_lengths)
  F_asked : Fun K "_law_asked" "_law_asked" s_asked A.a_asked A.d_asked
  b_asked : Binds K A.d_asked P_asked []
  g_asked : mg "_law_asked" = some (.ref A.a_asked)
  F_apart : Fun K "_law_apart" "_law_apart" s_apart A.a_apart A.d_apart
  b_apart : Binds K A.d_apart P_apart []
  g_apart : mg "_law_apart" = some (.ref A.a_apart)
  F_fit : Fun K "_law_fit" "_law_fit" s_fit A.a_fit A.d_fit
  b_fit : Binds K A.d_fit P_fit []
  g_fit : mg "_law_fit" = some (.ref A.a_fit)
  F_law : Fun K "law" "law" s_law A.a_law A.d_law
  g_law : mg "law" = some (.ref A.a_law)
  TB_making_order : LamX.TabB base mg A.k_making_order A.p_making_order
  L_making_order : ∃ (oc : Value) (od : Option Addr) (kV doc pm : Value) (an : Option Addr) (ct : Value) (osl : Array (Option Value)), K.lookup A.a_making_order = some ⟨oc, od, .func (PySem.W.fnOf "making_order" "making_order" (defArgs s_making_order) (defBody s_making_order) (defScope s_making_order) .none kV doc pm an (.ref A.k_making_order) ct), osl⟩ ∧ PySem.W.codeIn K (.ref A.k_making_order) "making_order" = true
  xg_NoWords : mg "NoWords" = some (.ref A.x_NoWords)
  xq_NoWords : PySem.W.excIn K A.x_NoWords veB "ValueError.__new__" = true
  xk_NoWords : PySem.W.keepIn K (.ref A.x_NoWords) = true
  xs_NoWords : PySem.W.subIn K (.ref A.x_NoWords) (.type "BaseException") = some true
  xt_NoWords : PySem.W.typeIn K (.ref A.x_NoWords) = some (.type "type")
  xm_NoWords : PySem.W.exmOne K (.ref A.x_NoWords) (.ref A.x_NoWords) = some true
  z_abs : mg "abs" = none
  z_all : mg "all" = none
  z_isinstance : mg "isinstance" = none
  z_len : mg "len" = none
  z_list : mg "list" = none
  z_max : mg "max" = none
  z_min : mg "min" = none
  z_range : mg "range" = none
  z_sorted : mg "sorted" = none
  z_str : mg "str" = none
  z_sum : mg "sum" = none
  z_zip : mg "zip" = none
section
variable {P : Program} {w : World} {K : PySem.W.Frag} {mg : Str → Option Value} {base : Heap}
def spBag (K : PySem.W.Frag) : Sp := fun vs H Q _ => ∃ (a : Addr) (ns : List Int) (k : Int), vs = [.ref a, .int k] ∧ SqL K H a (ns.map V.int) ∧ 0 ≤ k ∧ k ≤ 1000 ∧
  ∀ p g s, H p = none → 0 ≤ g → 0 ≤ s → s < 1000000000000 → Q (.ref p) (upd H p (.lst [.int g, .int s]))
theorem ok_bag {A : Ad} (T : Txt w K mg base A) : FnOk P w K mg base CX0 1 A.a_bag A.d_bag P_bag (spBag K) := by
  refine T.F_bag.ok sc_bag (fun vs H Q E h => ?_) (fun cdv Ar outer s H vs Q E hr h => ?_)
  · obtain ⟨a, ns, k, rfl, _⟩ := h
    rfl
  · obtain ⟨a, ns, k, rfl, hS, k0, k1, q⟩ := h
    refine ⟨_, (pss_cons (ps_set (i := 2) sc_bag.nd rfl (Or.inl rfl) pe_int)
      (pss_cons (ps_if (pt_cmpR op_lt (pv 1) (pe_callB (r := fun xs H Q => ∃ p ys, xs = [.ref p] ∧ (SqL K H p ys ∨ SqT K H p ys) ∧ Q (.int ys.length) H) call_len_seq (by rfl) T.z_len PySem.boot_len (pa_cons (pv 0) pa_nil)) (nomark _))
      (pss_one (ps_set (i := 2) sc_bag.nd rfl (Or.inl rfl) (pe_ix (r := rIxL K) ix_list (pv 0) (pv 1) (fun _ _ => rfl)))) pss_nil)
      (pss_cons (ps_set (i := 3) sc_bag.nd rfl (Or.inl rfl) pe_int)
      (pss_cons (ps_if (pt_cmpR op_ge (pe_callB call_abs (by rfl) T.z_abs (by decide +kernel) (pa_cons (pv 2) pa_nil)) (pe_op op_pow pe_int pe_int) (nomark _))
      (pss_one (ps_set (i := 3) sc_bag.nd rfl (Or.inl rfl) (pe_callB call_abs (by rfl) T.z_abs (by decide +kernel) (pa_cons (pv 2) pa_nil)))) pss_nil)
      (pss_one (ps_ret (pe_lst (pa_cons (pv 3) (pa_cons (pe_op op_add (pe_op op_add (pe_op op_mul (pe_op op_mod (pv 2) pe_int) pe_int) (pe_op op_mul pe_int (pv 1))) pe_int) pa_nil))))))))), ?_⟩
    have fin : ∀ (c g : Int), 0 ≤ g → tSeq (tIfS (tTest (tOp (rI0 fun i j => .bl (decide (j ≤ i))) (tCB (fun xs H Q => ∃ i, xs = [.int i] ∧ Q (.int (if i < 0 then -i else i)) H) (tCons (tVar 2) tNil)) (tOp (rI CPow fun i j => .int (i ^ j.toNat)) (tC (.int 10)) (tC (.int 18))))) (tAsg (tCB (fun xs H Q => ∃ i, xs = [.int i] ∧ Q (.int (if i < 0 then -i else i)) H) (tCons (tVar 2) tNil)) (gName 3)) tNext)
        (tRet (tLst (tCons (tVar 3) (tCons (tOp (rI0 fun i j => .int (i + j)) (tOp (rI0 fun i j => .int (i + j)) (tOp (rI CMul fun i j => .int (i * j)) (tOp (rI (fun _ j => 0 < j) fun i j => .int (i % j)) (tVar 2) (tC (.int 1000000007))) (tC (.int 7))) (tOp (rI CMul fun i j => .int (i * j)) (tC (.int 1013)) (tVar 1))) (tC (.int 5))) tNil)))) { nx := fun _ H' => Q .non H', rt := Q } [some (.ref a), some (.int k), some (.int c), some (.int g)] H := by
      intro c g g0
      have fin2 : ∀ (g : Int), 0 ≤ g → tRet (tLst (tCons (tVar 3) (tCons (tOp (rI0 fun i j => .int (i + j)) (tOp (rI0 fun i j => .int (i + j)) (tOp (rI CMul fun i j => .int (i * j)) (tOp (rI (fun _ j => 0 < j) fun i j => .int (i % j)) (tVar 2) (tC (.int 1000000007))) (tC (.int 7))) (tOp (rI CMul fun i j => .int (i * j)) (tC (.int 1013)) (tVar 1))) (tC (.int 5))) tNil))) { nx := fun _ H' => Q .non H', rt := Q } [some (.ref a), some (.int k), some (.int c), some (.int g)] H := by
        intro g g0
        have m0 := Int.emod_nonneg c (show (1000000007 : Int) ≠ 0 by decide)
        have m1 := Int.emod_lt_of_pos c (show (0 : Int) < 1000000007 by decide)
        refine ⟨_, rfl, _, rfl, _, _, rfl, rfl, (by show (0 : Int) < 1000000007; decide), _, _, rfl, rfl, .inr ⟨by decide, by decide⟩, _, rfl, _, _, rfl, rfl, .inl ⟨by decide, by decide⟩, _, _, rfl, rfl, _, _, rfl, rfl, (by show 2 ≤ sizeLine; decide), fun p hp => ?_⟩
        exact q p g _ hp g0 (by omega) (by omega)
      refine ⟨_, rfl, _, rfl, _, _, rfl, rfl, ⟨by decide, by decide, by decide⟩, _, _, rfl, rfl, _, rfl, ite2 (fun e => ?_) (fun e => ?_)⟩
      · refine ⟨_, rfl, _, rfl, fin2 _ ?_⟩
        split <;> omega
      · exact fin2 g g0
    refine ⟨_, rfl, _, rfl, _, _, rfl, .inl hS, _, _, rfl, rfl, _, rfl, ite2 (fun e => ?_) (fun e => ?_)⟩
    · have lt : k < ((ns.map V.int).length : Int) := of_decide_eq_true e
      obtain ⟨j, rfl⟩ := Int.eq_ofNat_of_zero_le k0
      have hj : j < ns.length := by
        rw [List.length_map] at lt
        omega
      have g : (ns.map V.int)[j]? = some (.int ns[j]) := by
        rw [List.getElem?_map, List.getElem?_eq_getElem hj]
        rfl
      refine ⟨_, rfl, _, rfl, _, _, _, _, rfl, rfl, hS, atI_nat g, ?_⟩
      exact fin _ 0 (Int.le_refl _)
    · exact fin 0 0 (Int.le_refl _)
def spDraw : Sp := fun vs H Q _ => ∃ (b : Addr) (m : Int), vs = [.ref b, .int m] ∧ BagAt H b ∧ 0 < m ∧ m < 1000000 ∧
  ∀ (d : Int) (H' : Hp), 0 ≤ d → d < m → Bx b H H' → Q (.int d) H'
theorem ok_draw {A : Ad} (T : Txt w K mg base A) : FnOk P w K mg base CX0 1 A.a_draw A.d_draw P_draw spDraw := by
  refine T.F_draw.ok sc_draw (fun vs H Q E h => ?_) (fun cdv Ar outer s H vs Q E hr h => ?_)
  · obtain ⟨b, m, rfl, _⟩ := h
    rfl
  · obtain ⟨b, m, rfl, ⟨g, s, hb, g0, s0, s1⟩, m0, m1, q⟩ := h
    refine ⟨_, (pss_cons (ps_if (pt_cmpR op_gt (pe_ix (r := rIxL K) ix_list (pv 0) pe_int (fun _ _ => rfl)) pe_int (nomark _))
      (pss_cons (ps_set (i := 2) sc_draw.nd rfl (Or.inl rfl) (pe_op op_mod (pe_ix (r := rIxL K) ix_list (pv 0) pe_int (fun _ _ => rfl)) (pv 1)))
      (pss_cons (ps_asg (pe_op op_fdiv (pe_ix (r := rIxL K) ix_list (pv 0) pe_int (fun _ _ => rfl)) (pv 1)) (pg_sub (pv 0) pe_int set_list))
      (pss_one (ps_ret (pv 2))))) pss_nil)
      (pss_cons (ps_asg (pe_op op_mod (pe_op op_add (pe_op op_mul (pe_ix (r := rIxL K) ix_list (pv 0) pe_int (fun _ _ => rfl)) pe_int) pe_int) pe_int) (pg_sub (pv 0) pe_int set_list))
      (pss_one (ps_ret (pe_op op_mod (pe_op op_mod (pe_op op_pow (pe_op op_fdiv (pe_ix (r := rIxL K) ix_list (pv 0) pe_int (fun _ _ => rfl)) pe_int) pe_int) pe_int) (pv 1)))))), ?_⟩
    refine ⟨_, rfl, _, _, _, _, rfl, rfl, SqL.of hb, atI_nat (j := 0) rfl, _, _, rfl, rfl, _, rfl, ite2 (fun e => ?_) (fun e => ?_)⟩
    · refine ⟨_, rfl, _, _, _, _, rfl, rfl, SqL.of hb, atI_nat (j := 0) rfl, _, rfl, _, _, rfl, rfl, m0, ?_⟩
      refine ⟨_, rfl, _, _, _, _, rfl, rfl, SqL.of hb, atI_nat (j := 0) rfl, _, rfl, _, _, rfl, rfl, ⟨m0, by omega⟩, _, rfl, _, _, _, _, rfl, rfl, hb, Evl.ixN_nat (j := 0) (by show 0 < 2; decide), ?_⟩
      refine ⟨_, rfl, ?_⟩
      exact q _ _ (Int.emod_nonneg _ (by omega)) (Int.emod_lt_of_pos _ m0) (Bx.drawn (Int.ediv_nonneg g0 (by omega)) s0 s1)
    · have t0 := Int.emod_nonneg (s * 69621 + 1234567) (show (2147483647 : Int) ≠ 0 by decide)
      have t1 := Int.emod_lt_of_pos (s * 69621 + 1234567) (show (0 : Int) < 2147483647 by decide)
      refine ⟨_, rfl, _, _, _, _, rfl, rfl, SqL.of hb, atI_nat (j := 1) rfl, _, _, rfl, rfl, .inr ⟨by decide, by decide⟩, _, _, rfl, rfl, _, _, rfl, rfl, (by show (0 : Int) < 2147483647; decide), _, rfl, _, _, _, _, rfl, rfl, hb, Evl.ixN_nat (j := 1) (by show 1 < 2; decide), ?_⟩
      refine ⟨_, rfl, _, _, _, _, rfl, rfl, SqL.of upd_same, atI_nat (j := 1) rfl, _, _, rfl, rfl, ⟨by decide, by decide⟩, _, _, rfl, rfl, ⟨by decide, by decide, ?_⟩, _, _, rfl, rfl, (by show (0 : Int) < 998244353; decide), _, rfl, _, _, rfl, rfl, m0, ?_⟩
      · omega
      · exact q _ _ (Int.emod_nonneg _ (by omega)) (Int.emod_lt_of_pos _ m0) (Bx.drawn g0 t0 (by omega))

/-! ### words by lengths -/
abbrev TT (p : Addr) : List (Addr × Str) := [(p, (("making_order" : Str) ++ ".<locals>.") ++ "<lambda>")]
theorem extN_of {H H' : Hp} (e : Same H H') : LamX.ExtN H H' := fun b o h _ => e b o h
theorem tabs_same {T : List (Addr × Str)} {H H' : Hp} (h : LamX.Tabs T H) (e : Same H H') : LamX.Tabs T H' := h.ext e
def spOrder (p : Addr) : Sp := fun vs H Q _ => ∃ (a : Addr) (ns : List Int), vs = [.ref a] ∧ LamX.Tabs (TT p) H ∧ H a = some (.lst (ns.map V.int)) ∧ ns.length ≤ 1000 ∧
  ∀ q H', LamX.ExtN H H' → LamX.Tabs (TT p) H' → H' q = none → Q (.ref q) (upd H' q (.lst ((orderOf ns).map fun (i : Nat) => V.int (i : Int))))
theorem ok_making_order {A : Ad} (T : Txt w K mg base A) : FnOk P w K mg base CX0 1 A.a_making_order A.d_making_order P_making_order (spOrder A.p_making_order) := by
  obtain ⟨oc, od, kV, doc, pm, an, ct, osl, lk, hcd⟩ := T.L_making_order
  obtain ⟨oc2, od2, kV2, doc2, pm2, an2, cdv2, ct2, osl2, efd, lk2, hcd2⟩ := T.F_making_order.ex
  have e2 := lk.symm.trans lk2
  have efd2 : PySem.W.fnOf "making_order" "making_order" (defArgs s_making_order) (defBody s_making_order) (defScope s_making_order) .none kV doc pm an (.ref A.k_making_order) ct = A.d_making_order := by
    injection e2 with e2
    injection e2 with _ _ e2 _
    injection e2
  rw [← efd2]
  refine fn_of lk hcd sc_making_order (fun vs H Q E h => ?_) (fun Ar outer s H vs Q E hr h => ?_)
  · obtain ⟨a, ns, rfl, _⟩ := h
    rfl
  · obtain ⟨a, ns, rfl, hT, ha, hl, q⟩ := h
    refine ⟨_, pss_one (ps_ret (pe_sortLam (T := TT A.p_making_order) (iL := 0) (by rfl) T.z_sorted (pa_cons (pe_callTy cr_range1 (by rfl) T.z_range (by decide +kernel) (pa_cons (pe_callB (r := fun xs H Q => ∃ p ys, xs = [.ref p] ∧ (SqL K H p ys ∨ SqT K H p ys) ∧ Q (.int ys.length) H) call_len_seq (by rfl) T.z_len PySem.boot_len (pa_cons (pv 0) pa_nil)) pa_nil)) pa_nil)
      T.TB_making_order rfl (List.mem_singleton.mpr rfl) (fun p hp _ => by rw [List.mem_singleton.mp hp]; rfl) hr rfl rfl rfl rfl rfl rfl rfl (by decide +kernel) rfl (fun _ _ _ _ _ _ => rfl))), ?_⟩
    refine ⟨_, rfl, a, _, rfl, .inl (SqL.of ha), _, rfl, fun r hr2 => ?_⟩
    have s1 : Same H (upd H r (.rng 0 ((ns.map V.int).length : Int))) := same_new hr2
    refine ⟨r, a, ns, rfl, by rw [upd_same, List.length_map], tabs_same hT s1, rfl, s1 _ _ ha, hl, fun p H2 eN T2 fr => ?_⟩
    exact q p H2 (fun b o hb n => eN b o (s1 _ _ hb) n) T2 fr
theorem cutS_to (l : List Nat) (b : Nat) (hb : b ≤ l.length) : cutS (sOf l) none (some (b : Int)) = sOf (l.take b) := by
  unfold cutS
  rw [HT.sIx_nat, sOf_len, sOf_list, Nat.min_eq_left hb, HT.sIx_none]
  show sOf ((l.drop 0).take (b - 0)) = _
  rw [List.drop_zero, Nat.sub_zero]
theorem rfind_one {w : List Nat} {i : Nat} (h : lastOne w = some i) : Txt.rfind (sOf w) (Str.ofString "1") = (i : Int) := by
  have at_iff : ∀ j, StrLaws.At (sOf w) ⟨#[49]⟩ (sOf w).length j ↔ w[j]? = some 49 := fun j => by
    have := StrLaws.subAt_one (sOf w) 49 j
    rw [sOf_list] at this
    exact this
  have hs := lastOne_spec w
  rcases hs with ⟨e, _⟩ | ⟨i2, e, h1, h2⟩
  · rw [e] at h
    cases h
  · rw [e] at h
    cases h
    show (match Builtin.Str.lastOccurrence (sOf w) ⟨#[49]⟩ 0 (sOf w).length with | some i => (i : Int) | none => -1) = (i : Int)
    rcases StrLaws.last_spec (sOf w) ⟨#[49]⟩ with ⟨_, n⟩ | ⟨j, ej, a1, a2⟩
    · exact absurd ((at_iff i).mpr h1) (n i)
    · rw [ej]
      have h3 := (at_iff j).mp a1
      have : i = j := by
        rcases Nat.lt_trichotomy i j with z | z | z
        · exact absurd h3 (h2 j z)
        · exact z
        · exact absurd ((at_iff i).mpr h1) (a2 i z)
      rw [this]
theorem rfind_no {w : List Nat} (h : lastOne w = none) : Txt.rfind (sOf w) (Str.ofString "1") = -1 := by
  have at_iff : ∀ j, StrLaws.At (sOf w) ⟨#[49]⟩ (sOf w).length j ↔ w[j]? = some 49 := fun j => by
    have := StrLaws.subAt_one (sOf w) 49 j
    rw [sOf_list] at this
    exact this
  rcases lastOne_spec w with ⟨_, n⟩ | ⟨i2, e, _⟩
  · show (match Builtin.Str.lastOccurrence (sOf w) ⟨#[49]⟩ 0 (sOf w).length with | some i => (i : Int) | none => -1) = -1
    rcases StrLaws.last_spec (sOf w) ⟨#[49]⟩ with ⟨e, _⟩ | ⟨j, ej, a1, _⟩
    · rw [e]
    · exact absurd ((at_iff j).mp a1) (n j)
  · rw [e] at h
    cases h
def spLess (C : Addr) : Sp := fun vs H Q E => ∃ w : List Nat, vs = [.str (sOf w)] ∧ w.length ≤ 1000 ∧ (∀ i, lastOne w = some i → Q (.str (sOf (lessW w))) H) ∧ (lastOne w = none → E (.ref C) none H)
theorem lastOne_lt {w : List Nat} {i : Nat} (h : lastOne w = some i) : i < w.length := by
  rcases lastOne_spec w with ⟨e, _⟩ | ⟨i2, e, h1, _⟩
  · rw [e] at h
    cases h
  · rw [e] at h
    cases h
    exact (List.getElem?_eq_some_iff.mp h1).1
theorem lessW_len {w : List Nat} {i : Nat} (h : lastOne w = some i) : (lessW w).length = w.length := by
  have := lastOne_lt h
  unfold lessW
  rw [h]
  show (w.take i ++ 48 :: List.replicate (w.length - i - 1) 49).length = w.length
  rw [List.length_append, List.length_cons, List.length_replicate, List.length_take]
  omega
theorem ok_one_less {A : Ad} (T : Txt w K mg base A) : FnOk P w K mg base (L2.CX P w) 1 A.a_one_less A.d_one_less P_one_less (spLess A.x_NoWords) := by
  refine T.F_one_less.okX sc_one_less (fun vs H Q E h => ?_) (fun cdv Ar outer s H vs Q E hr h => ?_)
  · obtain ⟨w, rfl, _⟩ := h
    rfl
  · obtain ⟨wd, rfl, lw, q, qx⟩ := h
    refine ⟨_, (pss_cons (ps_set (i := 1) sc_one_less.nd rfl (Or.inl rfl) (pe_bm PySem.F.plainAttrs_str PySem.F.slot_str_rfind PySem.F.type_str_rfind mt_rfind (pv 0) (pa_cons pe_str pa_nil)))
      (pss_cons (ps_if (pt_cmpR op_lt (pv 1) pe_int (nomark _))
      (pss_one (ps_raise rfl (takes_of rfl rfl rfl rfl) (pmk_own PySem.F.excBase_ValueError T.xq_NoWords T.xg_NoWords T.xk_NoWords (raises_own T.xs_NoWords T.xt_NoWords) (by rfl)))) pss_nil)
      (pss_one (ps_ret (pe_op op_add_str (pe_op op_add_str (pe_slice sl_str (pv 0) po_none (po_some (pv 1))) pe_str) (pe_op op_mul_str pe_str (pe_op op_sub (pe_op op_sub (pe_callB call_len_str (by rfl) T.z_len PySem.boot_len (pa_cons (pv 0) pa_nil)) (pv 1)) pe_int))))))), ?_⟩
    have hl : (sOf wd).length ≤ sizeLine := by
      rw [sOf_len]
      exact sz (by omega)
    cases hi : lastOne wd with
    | none =>
      have er := rfind_no hi
      refine ⟨_, rfl, rfl, _, _, rfl, rfl, ?_⟩
      rw [er]
      exact ⟨_, rfl, _, _, rfl, rfl, _, rfl, qx hi⟩
    | some i =>
    have li := lastOne_lt hi
    have er := rfind_one hi
    have q := q i hi
    refine ⟨_, rfl, rfl, _, _, rfl, rfl, ?_⟩
    rw [er]
    refine ⟨_, rfl, _, _, rfl, rfl, _, rfl, ite2 (fun e => ?_) (fun e => ?_)⟩
    · have := of_decide_eq_true e
      omega
    · refine ⟨_, rfl, _, rfl, _, rfl, _, rfl, hl, _, _, rfl, rfl, ?_, _, rfl, _, rfl, hl, _, rfl, _, _, rfl, rfl, _, _, rfl, rfl, 49, _, rfl, rfl, ⟨by rw [sOf_len]; omega, by rw [sOf_len]; omega⟩, _, _, rfl, rfl, ?_, ?_⟩
      · rw [cutS_to wd i (by omega), sOf_len, List.length_take]
        exact sz (by show min i wd.length + 1 ≤ 100000; omega)
      · rw [cutS_to wd i (by omega), show (Str.ofString "0") = sOf [48] from rfl, sOf_app, sOf_len, sOf_len, List.length_append, List.length_take, List.length_replicate, sOf_len]
        exact sz (by show min i wd.length + 1 + _ ≤ 100000; omega)
      · rw [cutS_to wd i (by omega), show (Str.ofString "0") = sOf [48] from rfl, sOf_app, sOf_app]
        have e3 : wd.take i ++ [48] ++ List.replicate (((sOf wd).length : Int) - (i : Int) - 1).toNat 49 = lessW wd := by
          unfold lessW
          rw [hi, sOf_len, List.append_assoc]
          show wd.take i ++ 48 :: List.replicate _ 49 = wd.take i ++ 48 :: List.replicate _ 49
          rw [show ((wd.length : Int) - (i : Int) - 1).toNat = wd.length - i - 1 by omega]
        rw [e3]
        exact q
def nvs (ns : List Nat) : List V := (iv ns).map V.int
theorem nvs_at {ns : List Nat} {p : Nat} (h : p < ns.length) : (nvs ns)[p]? = some (.int ((ns.getD p 0 : Nat) : Int)) := by
  unfold nvs iv
  rw [List.map_map, List.getElem?_map, List.getD_eq_getElem?_getD, List.getElem?_eq_getElem h]
  rfl
theorem rep_nil (n : Nat) : (List.replicate n [V.str (Str.ofString "")]).flatten = (List.replicate n ([] : List Nat)).map sV := by
  induction n with
  | zero => rfl
  | succ k ih =>
    rw [List.replicate_succ, List.flatten_cons, ih, List.replicate_succ]
    rfl
def ahV (o : Option (List Nat)) : V := match o with
  | none => .non
  | some w => .str (sOf w)
theorem tabs_but {T : List (Addr × Str)} {H H' : Hp} {q : Addr} {xs : List V} (h : LamX.Tabs T H) (hq : H q = some (.lst xs)) (e : ∀ b o, b ≠ q → H b = some o → H' b = some o) : LamX.Tabs T H' := fun p hp => by
  obtain ⟨ps, h1, h2, h3⟩ := h p hp
  refine ⟨ps, e _ _ (fun z => ?_) h1, h2, fun pos cv hc => ?_⟩
  · rw [z, hq] at h1
    cases h1
  · obtain ⟨c, e1, e2⟩ := h3 pos cv hc
    refine ⟨c, e1, e _ _ (fun z => ?_) e2⟩
    rw [z, hq] at e2
    unfold LamX.CodeO at e2
    cases e2
abbrev okN (ns : List Nat) : Bool := okW ns (buckets (fun i => (iv ns).getD i 0) ns.length) (startW ns)
def spWords (p C : Addr) : Sp := fun vs H Q E => ∃ (a : Addr) (ns : List Nat), vs = [.ref a] ∧ LamX.Tabs (TT p) H ∧ H a = some (.lst (nvs ns)) ∧ ns.length ≤ 100 ∧ (∀ n ∈ ns, n ≤ 12) ∧
  (okN ns = false → ∀ H', LamX.ExtN H H' → LamX.Tabs (TT p) H' → E (.ref C) none H') ∧
  (okN ns = true → ∀ q H', LamX.ExtN H H' → LamX.Tabs (TT p) H' → H q = none → H' q = some (.lst ((wordsOf ns).map sV)) → Q (.ref q) H')
theorem ok_words_by {A : Ad} (T : Txt w K mg base A) : FnOk P w K mg base (L2.CX P w) 2 A.a_words_by A.d_words_by P_words_by (spWords A.p_making_order A.x_NoWords) := by
  have G_making_order := ok_making_order (P := P) (w := w) (base := base) T
  have G_one_less := ok_one_less (P := P) (w := w) (base := base) T
  refine T.F_words_by.okX sc_words_by (fun vs H Q E h => ?_) (fun cdv Ar outer s H vs Q E hr h => ?_)
  · obtain ⟨a, ns, rfl, _⟩ := h
    rfl
  · obtain ⟨a, ns, rfl, hT, ha, ln, hn, qx, qq⟩ := h
    unfold okN at qx qq
    refine ⟨_, (pss_cons (ps_set (i := 1) sc_words_by.nd rfl (Or.inl rfl) (pe_op op_rep (pe_lst (pa_cons pe_str pa_nil)) (pe_callB (r := fun xs H Q => ∃ p ys, xs = [.ref p] ∧ (SqL K H p ys ∨ SqT K H p ys) ∧ Q (.int ys.length) H) call_len_seq (by rfl) T.z_len PySem.boot_len (pa_cons (pv 0) pa_nil))))
      (pss_cons (ps_set (i := 2) sc_words_by.nd rfl (Or.inl rfl) pe_non)
      (pss_cons (ps_for (passes_of rfl) rfl (pi_list (pe_call G_making_order (hr.mono (by decide)) (by rfl) T.g_making_order T.F_making_order.kp T.b_making_order .nil pass0 (pa_cons (pv 0) pa_nil))) (pg_name (i := 3) sc_words_by.nd rfl (Or.inl rfl))
      (pss_cons (ps_set (i := 4) sc_words_by.nd rfl (Or.inl rfl) (pe_ifExp (pt_cmpR op_isN (pv 2) pe_non (nomark _)) pe_str (pe_callS G_one_less (hr.mono (by decide)) (by rfl) T.g_one_less T.F_one_less.kp T.b_one_less (fun σ => passAt (takes_of rfl rfl rfl rfl) σ) (pa_cons (pv 2) pa_nil))))
      (pss_cons (ps_set (i := 2) sc_words_by.nd rfl (Or.inl rfl) (pe_bm PySem.F.plainAttrs_str PySem.F.slot_str_ljust PySem.F.type_str_ljust mt_ljustF (pv 4) (pa_cons (pe_ix (r := rIxL K) ix_list (pv 0) (pv 3) (fun _ _ => rfl)) (pa_cons pe_str pa_nil))))
      (pss_one (ps_asg (pv 2) (pg_sub (pv 1) (pv 3) set_list))))))
      (pss_one (ps_ret (pv 1)))))), ?_⟩
    refine ⟨(by show 1 ≤ sizeLine; decide), fun p1 hp1 => ?_⟩
    have s1 : Same H (upd H p1 (.lst [.str (Str.ofString "")])) := same_new hp1
    have nl : (nvs ns).length = ns.length := by unfold nvs; rw [List.length_map, iv_len]
    refine ⟨_, rfl, a, _, rfl, .inl (SqL.of (s1 _ _ ha)), _, _, _, rfl, rfl, upd_same, by omega, by omega, by rw [nl]; show 1 * _ ≤ sizeLine; exact sz (by omega), fun q hq => ?_⟩
    have s2 := s1.trans (same_new (o := .lst (List.replicate ((nvs ns).length : Int).toNat [V.str (Str.ofString "")]).flatten) hq)
    refine ⟨_, rfl, a, iv ns, rfl, tabs_same hT s2, s2 _ _ ha, by rw [iv_len]; omega, fun o H3 eN T3 fr => ?_⟩
    have hq3 : H3 q = some (.lst ((startW ns).1.map sV)) := by
      have := eN q _ upd_same (fun ps z => by cases z)
      rw [this]
      show some (HO.lst (List.replicate ((nvs ns).length : Int).toNat [V.str (Str.ofString "")]).flatten) = some (HO.lst ((List.replicate ns.length ([] : List Nat)).map sV))
      rw [rep_nil, nl]
      rfl
    have fq : H q = none := by
      cases z : H q with
      | none => rfl
      | some u =>
        rw [s1 _ _ z] at hq
        cases hq
    have nqo : q ≠ o := ne_of_none hq3 fr
    rw [order_iv hn]
    generalize hord : buckets (fun i => (iv ns).getD i 0) ns.length = ord at *
    have ha3 : H3 a = some (.lst (nvs ns)) := eN a _ (s2 _ _ ha) (fun ps z => by cases z)
    have nao : a ≠ o := ne_of_none ha3 fr
    have naq : a ≠ q := ne_of_none ha fq
    refine ⟨o, rfl, ⟨_, SqL.of upd_same⟩, for_list (K := K) (a := o) (xs := ord.map fun (i : Nat) => V.int (i : Int)) (fun i σ H' => ∃ y3 y4, σ = [some (.ref a), some (.ref q), some (ahV ((ord.take i).foldl (stepW ns) (startW ns)).2), y3, y4] ∧ H' q = some (.lst (((ord.take i).foldl (stepW ns) (startW ns)).1.map sV)) ∧ okW ns (ord.take i) (startW ns) = true ∧ ∀ b u, b ≠ q → upd H3 o (.lst (ord.map fun (i : Nat) => V.int (i : Int))) b = some u → H' b = some u)
      ⟨none, none, rfl, by rw [upd_ne nqo]; exact hq3, rfl, fun b u _ h => h⟩ (fun i σ H' _ ⟨_, _, _, _, _, ke⟩ => SqL.of (ke o _ nqo.symm upd_same)) ?_ ?_⟩
    · rintro i x σ H' hx ⟨y3, y4, rfl, hq', okI, ke⟩
      rw [List.getElem?_map] at hx
      obtain ⟨p, hp, rfl⟩ : ∃ p, ord[i]? = some p ∧ V.int (p : Int) = x := by
        cases e : ord[i]? with
        | none =>
          rw [e] at hx
          cases hx
        | some p =>
          rw [e] at hx
          exact ⟨p, rfl, Option.some.inj hx⟩
      have pn : p < ns.length := by
        have := List.mem_of_getElem? hp
        rw [← hord] at this
        exact mem_buckets this
      have lst := lenW_fold hn (ord.take i) _ (lenW_start ns)
      have okbad : ∀ wd, ((ord.take i).foldl (stepW ns) (startW ns)).2 = some wd → lastOne wd = none → okW ns ord (startW ns) = false := fun wd e1 e2 => by
        cases z : okW ns ord (startW ns) with
        | false => rfl
        | true =>
          obtain ⟨j, hj⟩ := okW_at ord (startW ns) i p hp z wd e1
          rw [e2] at hj
          cases hj
      have okgo := fun hh => okW_snoc (ns := ns) p (ord.take i) (startW ns) okI hh
      rw [← take_more ord i p hp] at okgo
      have fst : (ord.take (i + 1)).foldl (stepW ns) (startW ns) = stepW ns ((ord.take i).foldl (stepW ns) (startW ns)) p := by
        rw [take_more ord i p hp, List.foldl_append]
        rfl
      have wl : ((ord.take i).foldl (stepW ns) (startW ns)).1.length = ns.length := by
        rw [words_len]
        exact List.length_replicate
      have ha' : H' a = some (.lst (nvs ns)) := ke a _ naq (by rw [upd_ne nao]; exact ha3)
      have atl : atI (nvs ns) (p : Int) = some (.int ((ns.getD p 0 : Nat) : Int)) := atI_nat (nvs_at pn)
      have hg : ns.getD p 0 ≤ 12 := by
        rw [List.getD_eq_getElem?_getD, List.getElem?_eq_getElem pn]
        exact hn _ (List.getElem_mem pn)
      generalize hst : (ord.take i).foldl (stepW ns) (startW ns) = st at *
      cases h2 : st.2 with
      | none =>
        have okS := okgo fun u hu => by
          rw [h2] at hu
          cases hu
        have e1 : st.1.set p ([] ++ List.replicate (((ns.getD p 0 : Nat) : Int).toNat - ([] : List Nat).length) 49) = (stepW ns st p).1 := by
          unfold stepW
          rw [h2]
          rfl
        have e2 : (stepW ns st p).2 = some ([] ++ List.replicate (ns.getD p 0 - ([] : List Nat).length) 49) := by
          unfold stepW
          rw [h2]
        refine ⟨_, rfl, rfl, _, rfl, ?_⟩
        refine ⟨_, rfl, rfl, _, rfl, _, rfl, _, _, _, .int ((ns.getD p 0 : Nat) : Int), rfl, rfl, SqL.of ha', atl, ([] : List Nat), _, 49, rfl, rfl, ⟨by omega, by omega⟩, ?_⟩
        refine ⟨_, rfl, _, rfl, _, rfl, q, _, _, p, rfl, rfl, hq', Evl.ixN_nat (by rw [List.length_map, wl]; omega), ?_⟩
        refine ⟨some (.int (p : Int)), some (.str (sOf ([] : List Nat))), ?_, ?_, okS, fun b u nb hb => by rw [upd_ne nb]; exact ke b u nb hb⟩
        · rw [fst, e2]
          rfl
        · rw [fst, upd_same]
          show some (HO.lst ((st.1.map sV).set p (sV (([] : List Nat) ++ List.replicate (((ns.getD p 0 : Nat) : Int).toNat - (([] : List Nat)).length) 49)))) = _
          rw [← List.map_set, e1]
      | some wd =>
        cases hj : lastOne wd with
        | none =>
          refine ⟨_, rfl, rfl, _, rfl, _, rfl, wd, rfl, ?_, fun i e => (by rw [hj] at e; cases e), fun _ => ?_⟩
          · have := lst wd h2
            omega
          · refine qx (okbad wd h2 hj) H' (fun b u hb nt => ?_) ?_
            · have nbq : b ≠ q := ne_of_none hb fq
              have h3 := eN b u (s2 _ _ hb) nt
              exact ke b u nbq (by rw [upd_ne (ne_of_none h3 fr)]; exact h3)
            · exact tabs_but (q := q) (H := upd H3 o (.lst (ord.map fun (i : Nat) => V.int (i : Int)))) (tabs_same T3 (same_new fr)) (by rw [upd_ne nqo]; exact hq3) ke
        | some j =>
        have okS := okgo fun u hu => by
          rw [h2] at hu
          cases hu
          exact ⟨j, hj⟩
        have lw := lst wd h2
        have ll := lessW_len hj
        have e1 : st.1.set p (lessW wd ++ List.replicate (((ns.getD p 0 : Nat) : Int).toNat - (lessW wd).length) 49) = (stepW ns st p).1 := by
          unfold stepW
          rw [h2]
          rfl
        have e2 : (stepW ns st p).2 = some (lessW wd ++ List.replicate (ns.getD p 0 - (lessW wd).length) 49) := by
          unfold stepW
          rw [h2]
        refine ⟨_, rfl, rfl, _, rfl, _, rfl, wd, rfl, (by omega), (fun i2 e9 => ?_), fun e => (by rw [hj] at e; cases e)⟩
        refine ⟨_, rfl, rfl, _, rfl, _, rfl, _, _, _, .int ((ns.getD p 0 : Nat) : Int), rfl, rfl, SqL.of ha', atl, (lessW wd), _, 49, rfl, rfl, ⟨by omega, by omega⟩, ?_⟩
        refine ⟨_, rfl, _, rfl, _, rfl, q, _, _, p, rfl, rfl, hq', Evl.ixN_nat (by rw [List.length_map, wl]; omega), ?_⟩
        refine ⟨some (.int (p : Int)), some (.str (sOf (lessW wd))), ?_, ?_, okS, fun b u nb hb => by rw [upd_ne nb]; exact ke b u nb hb⟩
        · rw [fst, e2]
          rfl
        · rw [fst, upd_same]
          show some (HO.lst ((st.1.map sV).set p (sV ((lessW wd) ++ List.replicate (((ns.getD p 0 : Nat) : Int).toNat - ((lessW wd)).length) 49)))) = _
          rw [← List.map_set, e1]
    · rintro σ H' ⟨y3, y4, rfl, hq', okI, ke⟩
      rw [List.length_map, List.take_length] at hq' okI
      have hw : (ord.foldl (stepW ns) (startW ns)).1 = wordsOf ns := by
        unfold Fp.wordsOf
        rw [hord]
      rw [hw] at hq'
      refine ⟨_, rfl, qq okI q H' (fun b u hb nt => ?_) ?_ fq hq'⟩
      · have nbq : b ≠ q := ne_of_none hb fq
        have h3 := eN b u (s2 _ _ hb) nt
        exact ke b u nbq (by rw [upd_ne (ne_of_none h3 fr)]; exact h3)
      · refine tabs_but (q := q) (H := upd H3 o (.lst (ord.map fun (i : Nat) => V.int (i : Int)))) (tabs_same T3 (same_new fr)) (by rw [upd_ne nqo]; exact hq3) ke

theorem nvs_app (ns : List Nat) (n : Nat) : nvs ns ++ [.int (n : Int)] = nvs (ns ++ [n]) := by
  unfold nvs iv
  rw [List.map_append, List.map_append]
  rfl
theorem nvs_len (ns : List Nat) : (nvs ns).length = ns.length := by
  unfold nvs
  rw [List.length_map, iv_len]
def spLengths : Sp := fun vs H Q _ => ∃ b : Addr, vs = [.ref b] ∧ BagAt H b ∧ ∀ q ns H', 1 ≤ ns.length → ns.length ≤ 40 → (∀ n ∈ ns, 1 ≤ n ∧ n ≤ 12) → Bx b H H' → H q = none → H' q = some (.lst (nvs ns)) → Q (.ref q) H'
theorem ok_lengths {A : Ad} (T : Txt w K mg base A) : FnOk P w K mg base CX0 2 A.a_lengths A.d_lengths P_lengths spLengths := by
  have G_draw := ok_draw (P := P) (w := w) (base := base) T
  refine T.F_lengths.ok sc_lengths (fun vs H Q E h => ?_) (fun cdv Ar outer s H vs Q E hr h => ?_)
  · obtain ⟨b, rfl, _⟩ := h
    rfl
  · obtain ⟨b, rfl, hb, qq⟩ := h
    refine ⟨_, (pss_cons (ps_set (i := 1) sc_lengths.nd rfl (Or.inl rfl) (pe_ix (r := rIxL K) ix_list (pe_lst (pa_cons (pe_op op_add pe_int (pe_call G_draw (hr.mono (by decide)) (by rfl) T.g_draw T.F_draw.kp T.b_draw .nil pass0 (pa_cons (pv 0) (pa_cons pe_int pa_nil)))) (pa_cons (pe_op op_add pe_int (pe_call G_draw (hr.mono (by decide)) (by rfl) T.g_draw T.F_draw.kp T.b_draw .nil pass0 (pa_cons (pv 0) (pa_cons pe_int pa_nil)))) (pa_cons pe_int (pa_cons (pe_op op_add pe_int (pe_call G_draw (hr.mono (by decide)) (by rfl) T.g_draw T.F_draw.kp T.b_draw .nil pass0 (pa_cons (pv 0) (pa_cons pe_int pa_nil)))) pa_nil))))) (pe_call G_draw (hr.mono (by decide)) (by rfl) T.g_draw T.F_draw.kp T.b_draw .nil pass0 (pa_cons (pv 0) (pa_cons pe_int pa_nil))) (fun _ _ => rfl)))
      (pss_cons (ps_set (i := 2) sc_lengths.nd rfl (Or.inl rfl) (pe_op op_add pe_int (pe_call G_draw (hr.mono (by decide)) (by rfl) T.g_draw T.F_draw.kp T.b_draw .nil pass0 (pa_cons (pv 0) (pa_cons pe_int pa_nil)))))
      (pss_cons (ps_set (i := 3) sc_lengths.nd rfl (Or.inl rfl) (pe_cmpR op_eq (pe_call G_draw (hr.mono (by decide)) (by rfl) T.g_draw T.F_draw.kp T.b_draw .nil pass0 (pa_cons (pv 0) (pa_cons pe_int pa_nil))) pe_int (nomark _)))
      (pss_cons (ps_set (i := 4) sc_lengths.nd rfl (Or.inl rfl) (pe_lst pa_nil))
      (pss_cons (ps_for PassesOwn.never rfl (pi_range1 (by rfl) T.z_range (pa_cons (pv 1) pa_nil)) (pg_name (i := 5) sc_lengths.nd rfl (Or.inl rfl))
      (pss_cons (ps_set (i := 6) sc_lengths.nd rfl (Or.inl rfl) (pv 2))
      (pss_cons (ps_if (pt_not (pt_val (pv 3)))
      (pss_one (ps_set (i := 6) sc_lengths.nd rfl (Or.inl rfl) (pe_op op_add (pv 2) (pe_call G_draw (hr.mono (by decide)) (by rfl) T.g_draw T.F_draw.kp T.b_draw .nil pass0 (pa_cons (pv 0) (pa_cons (pe_op op_sub pe_int (pv 2)) pa_nil)))))) pss_nil)
      (pss_one (ps_expr (pe_bm PySem.F.plainAttrs_list PySem.F.slot_list_append PySem.F.type_list_append mt_append (pv 4) (pa_cons (pv 6) pa_nil)))))))
      (pss_one (ps_ret (pv 4)))))))), ?_⟩
    refine ⟨_, rfl, b, 4, rfl, hb, by decide, by decide, fun d1 H1 d10 d11 bx1 => ?_⟩
    refine ⟨_, _, rfl, rfl, _, rfl, b, 40, rfl, bx1.1, by decide, by decide, fun d2 H2 d20 d21 bx2 => ?_⟩
    refine ⟨_, _, rfl, rfl, _, rfl, b, 16, rfl, bx2.1, by decide, by decide, fun d3 H3 d30 d31 bx3 => ?_⟩
    refine ⟨_, _, rfl, rfl, (by show 4 ≤ sizeLine; decide), fun p hp => ?_⟩
    have b3 := (bx1.trans bx2).trans bx3
    have np : p ≠ b := b3.1.ne hp
    have b4 := fun (o : HO) => b3.same (same_new (o := o) hp)
    refine ⟨_, rfl, b, 4, rfl, (b4 _).1, by decide, by decide, fun d4 H4 d40 d41 bx4 => ?_⟩
    obtain ⟨m, em, m1, m40⟩ : ∃ m : Int, atI [V.int (1 + d1), V.int (1 + d2), V.int 40, V.int (1 + d3)] d4 = some (.int m) ∧ 1 ≤ m ∧ m ≤ 40 := by
      have : d4 = 0 ∨ d4 = 1 ∨ d4 = 2 ∨ d4 = 3 := by omega
      rcases this with rfl | rfl | rfl | rfl
      · exact ⟨_, rfl, by omega, by omega⟩
      · exact ⟨_, rfl, by omega, by omega⟩
      · exact ⟨_, rfl, by omega, by omega⟩
      · exact ⟨_, rfl, by omega, by omega⟩
    refine ⟨_, _, _, .int m, rfl, rfl, SqL.of (bx4.2 _ _ np upd_same), em, ?_⟩
    refine ⟨_, rfl, b, 12, rfl, bx4.1, by decide, by decide, fun d5 H5 d50 d51 bx5 => ?_⟩
    refine ⟨_, _, rfl, rfl, ?_⟩
    refine ⟨_, rfl, b, 5, rfl, bx5.1, by decide, by decide, fun d6 H6 d60 d61 bx6 => ?_⟩
    refine ⟨rfl, ?_⟩
    have b6 : Bx b H H6 := (((b4 _).trans bx4).trans bx5).trans bx6
    refine ⟨(by show 0 ≤ sizeLine; decide), fun q hq => ?_⟩
    have fq : H q = none := b6.free hq
    have nq : q ≠ b := b6.1.ne hq
    generalize hal : decide (V.int d6 = V.int 3) = al
    refine ⟨_, rfl, _, rfl, by omega, by omega, for_range (fun i σ H' => ∃ (ns : List Nat) (y5 y6 : Option V), σ = [some (.ref b), some (.int m), some (.int (1 + d5)), some (.bl al), some (.ref q), y5, y6] ∧ H' q = some (.lst (nvs ns)) ∧ ns.length = i ∧ (∀ n ∈ ns, 1 ≤ n ∧ n ≤ 12) ∧ Bx b H H')
      ⟨[], none, none, rfl, upd_same, rfl, (fun n hn => nomatch hn), b6.same (same_new hq)⟩ ?_ ?_⟩
    · rintro i σ H7 hi ⟨ns, y5, y6, rfl, e7, l7, n7, b7⟩
      have fin : ∀ (x : Int) (H8 : Hp), 1 ≤ x → x ≤ 12 → Bx b H H8 → H8 q = some (.lst (nvs ns)) → ∃ (ns2 : List Nat) (y5 y6 : Option V), [some (V.ref b), some (.int m), some (.int (1 + d5)), some (.bl al), some (.ref q), some (.int (0 + (i : Int))), some (.int x)] = [some (.ref b), some (.int m), some (.int (1 + d5)), some (.bl al), some (.ref q), y5, y6] ∧ upd H8 q (.lst (nvs ns ++ [.int x])) q = some (.lst (nvs ns2)) ∧ ns2.length = i + 1 ∧ (∀ n ∈ ns2, 1 ≤ n ∧ n ≤ 12) ∧ Bx b H (upd H8 q (.lst (nvs ns ++ [.int x]))) := by
        intro x H8 x1 x12 b8 e8
        obtain ⟨n, rfl⟩ := Int.eq_ofNat_of_zero_le (show 0 ≤ x by omega)
        refine ⟨ns ++ [n], _, _, rfl, by rw [upd_same, ← nvs_app], by rw [List.length_append, l7]; rfl, fun k hk => ?_, b8.mut fq nq⟩
        rcases List.mem_append.mp hk with z | z
        · exact n7 k z
        · rw [List.mem_singleton.mp z]
          omega
      refine ⟨_, rfl, _, rfl, _, rfl, ?_⟩
      have lz : (nvs ns).length < sizeLine := by
        rw [nvs_len]
        exact szl (by omega)
      cases al with
      | true =>
        refine ⟨_, rfl, .inl ⟨rfl, _, SqL.of e7⟩, _, rfl, q, _, _, rfl, rfl, e7, lz, ?_⟩
        exact fin (1 + d5) H7 (by omega) (by omega) b7 e7
      | false =>
        refine ⟨_, rfl, _, rfl, _, rfl, _, _, rfl, rfl, b, 13 - (1 + d5), rfl, b7.1, by omega, by omega, fun d7 H8 d70 d71 bx8 => ?_⟩
        have e8 := bx8.2 _ _ nq e7
        refine ⟨_, _, rfl, rfl, ?_⟩
        refine ⟨_, rfl, .inl ⟨rfl, _, SqL.of e8⟩, _, rfl, q, _, _, rfl, rfl, e8, lz, ?_⟩
        exact fin (1 + d5 + d7) H8 (by omega) (by omega) (b7.trans bx8) e8
    · rintro σ H7 ⟨ns, y5, y6, rfl, e7, l7, n7, b7⟩
      exact ⟨_, rfl, qq q ns H7 (by omega) (by omega) n7 b7 fq e7⟩

def AskR (ns : List Nat) (v : V) (H : Hp) : Prop := (okN ns = false ∧ v = .non) ∨ (okN ns = true ∧ ∃ q, v = .ref q ∧ H q = some (.lst ((wordsOf ns).map sV)))
def spAsked (p : Addr) : Sp := fun vs H Q _ => ∃ (a : Addr) (ns : List Nat), vs = [.ref a] ∧ LamX.Tabs (TT p) H ∧ H a = some (.lst (nvs ns)) ∧ ns.length ≤ 100 ∧ (∀ n ∈ ns, n ≤ 12) ∧
  ∀ v H', LamX.ExtN H H' → LamX.Tabs (TT p) H' → AskR ns v H' → Q v H'
theorem ok_asked {A : Ad} (T : Txt w K mg base A) : FnOk P w K mg base CX0 3 A.a_asked A.d_asked P_asked (spAsked A.p_making_order) := by
  have G_words_by := ok_words_by (P := P) (w := w) (base := base) T
  refine T.F_asked.ok sc_asked (fun vs H Q E h => ?_) (fun cdv Ar outer s H vs Q E hr h => ?_)
  · obtain ⟨a, ns, rfl, _⟩ := h
    rfl
  · obtain ⟨a, ns, rfl, hT, ha, ln, hn, qq⟩ := h
    refine ⟨_, (pss_cons (ps_set (i := 1) sc_asked.nd rfl (Or.inl rfl) pe_non)
      (pss_cons (ps_try_only (Wout := fun _ _ _ _ => False) rfl rfl ⟨rfl, by decide, Or.inl T.xg_NoWords⟩ takes0 (fun W pn xe tk _ => (pss_one (ps_set (i := 1) sc_asked.nd rfl (Or.inl rfl) (pe_callS G_words_by (hr.mono (by decide)) (by rfl) T.g_words_by T.F_words_by.kp T.b_words_by (fun σ => passAt tk σ) (pa_cons (pe_callTy (r := fun xs H Q => ∃ p ys, xs = [.ref p] ∧ (SqL K H p ys ∨ SqT K H p ys) ∧ ∀ l, H l = none → Q (.ref l) (upd H l (.lst ys))) call_list_of (by rfl) T.z_list (by decide +kernel) (pa_cons (pv 0) pa_nil)) pa_nil))))) (fun a oe cls d pn hz hf => (pss_one (ps_set (i := 1) sc_asked.nd rfl (Or.inl rfl) pe_non))))
      (pss_one (ps_ret (pv 1))))), ?_⟩
    refine ⟨_, rfl, a, _, rfl, .inl (SqL.of ha), fun p hp => ?_⟩
    have s1 : Same H (upd H p (.lst (nvs ns))) := same_new hp
    have e1 : LamX.ExtN H (upd H p (.lst (nvs ns))) := extN_of s1
    refine ⟨p, ns, rfl, tabs_same hT s1, upd_same, ln, hn, fun z H' eN T2 => ?_, fun z q H' eN T2 fq hq => ?_⟩
    · refine ⟨true, T.xm_NoWords, fun _ a0 _ => ?_, fun z => nomatch z⟩
      exact ⟨_, rfl, qq _ H' (e1.trans eN) T2 (.inl ⟨z, rfl⟩)⟩
    · exact ⟨_, rfl, qq _ H' (e1.trans eN) T2 (.inr ⟨z, q, rfl, hq⟩)⟩

theorem cutS_upto (l : List Nat) (b : Nat) : cutS (sOf l) none (some (b : Int)) = sOf (l.take b) := by
  unfold cutS
  rw [HT.sIx_nat, sOf_len, sOf_list, HT.sIx_none]
  show sOf ((l.drop 0).take (min b l.length - 0)) = _
  rw [List.drop_zero, Nat.sub_zero]
  congr 1
  by_cases h : b ≤ l.length
  · rw [Nat.min_eq_left h]
  · rw [Nat.min_eq_right (by omega), List.take_length, List.take_of_length_le (by omega)]
theorem sV_at {W : List (List Nat)} {p : Nat} (h : p < W.length) : (W.map sV)[p]? = some (sV (W.getD p [])) := by
  rw [List.getElem?_map, List.getD_eq_getElem?_getD, List.getElem?_eq_getElem h]
  rfl
theorem getD_mem {W : List (List Nat)} {p : Nat} (h : p < W.length) : W.getD p [] ∈ W := by
  rw [List.getD_eq_getElem?_getD, List.getElem?_eq_getElem h]
  exact List.getElem_mem h
def spApart : Sp := fun vs H Q _ => ∃ (a : Addr) (W : List (List Nat)), vs = [.ref a] ∧ H a = some (.lst (W.map sV)) ∧ W.length ≤ 100 ∧ (∀ w ∈ W, w.length ≤ 12) ∧ (∀ p q, p < W.length → q < W.length → p ≠ q → (W.getD q []).take (W.getD p []).length ≠ W.getD p []) ∧ Q (.bl true) H
theorem ok_apart {A : Ad} (T : Txt w K mg base A) : FnOk P w K mg base CX0 1 A.a_apart A.d_apart P_apart spApart := by
  refine T.F_apart.ok sc_apart (fun vs H Q E h => ?_) (fun cdv Ar outer s H vs Q E hr h => ?_)
  · obtain ⟨a, W, rfl, _⟩ := h
    rfl
  · obtain ⟨a, W, rfl, ha, lW, wl, ap, q⟩ := h
    refine ⟨_, (pss_cons (ps_for PassesOwn.never rfl (pi_range1 (by rfl) T.z_range (pa_cons (pe_callB (r := fun xs H Q => ∃ p ys, xs = [.ref p] ∧ (SqL K H p ys ∨ SqT K H p ys) ∧ Q (.int ys.length) H) call_len_seq (by rfl) T.z_len PySem.boot_len (pa_cons (pv 0) pa_nil)) pa_nil)) (pg_name (i := 1) sc_apart.nd rfl (Or.inl rfl))
      (pss_one (ps_for PassesOwn.never rfl (pi_range1 (by rfl) T.z_range (pa_cons (pe_callB (r := fun xs H Q => ∃ p ys, xs = [.ref p] ∧ (SqL K H p ys ∨ SqT K H p ys) ∧ Q (.int ys.length) H) call_len_seq (by rfl) T.z_len PySem.boot_len (pa_cons (pv 0) pa_nil)) pa_nil)) (pg_name (i := 2) sc_apart.nd rfl (Or.inl rfl))
      (pss_one (ps_if (PW.pt (pw_and (pt_cmpR op_ne (pv 1) (pv 2) (nomark _)) (pw_and1 (pt_cmpR op_eq (pe_slice sl_str (pe_ix (r := rIxL K) ix_list (pv 0) (pv 2) (fun _ _ => rfl)) po_none (po_some (pe_callB call_len_str (by rfl) T.z_len PySem.boot_len (pa_cons (pe_ix (r := rIxL K) ix_list (pv 0) (pv 1) (fun _ _ => rfl)) pa_nil)))) (pe_ix (r := rIxL K) ix_list (pv 0) (pv 1) (fun _ _ => rfl)) (nomark _)))))
      (pss_one (ps_ret pe_bl)) pss_nil)))))
      (pss_one (ps_ret pe_bl))), ?_⟩
    have ml : (W.map sV).length = W.length := List.length_map ..
    refine ⟨_, rfl, a, _, rfl, .inl (SqL.of ha), _, rfl, by omega, by omega, ?_⟩
    rw [show ((W.map sV).length : Int).toNat = W.length by omega]
    refine for_range (lo := 0) (n := W.length) (fun i σ H' => ∃ y1 y2 : Option V, σ = [some (.ref a), y1, y2] ∧ H' = H) ⟨none, none, rfl, rfl⟩ ?_ ?_
    · rintro i σ H1 hi ⟨y1, y2, rfl, rfl⟩
      refine ⟨_, rfl, a, _, rfl, .inl (SqL.of ha), _, rfl, by omega, by omega, ?_⟩
      rw [show ((W.map sV).length : Int).toNat = W.length by omega]
      refine for_range (lo := 0) (n := W.length) (fun j σ H' => ∃ y2 : Option V, σ = [some (.ref a), some (.int (0 + (i : Int))), y2] ∧ H' = H1) ⟨y2, rfl, rfl⟩ ?_ ?_
      · rintro j σ H2 hj ⟨y2, rfl, rfl⟩
        refine ⟨_, rfl, _, rfl, rfl, _, rfl, ?_⟩
        by_cases e : i = j
        · rw [show (!decide (V.int (0 + (i : Int)) = V.int (0 + (j : Int)))) = false by rw [e, decide_eq_true rfl]; rfl]
          exact ⟨_, rfl, rfl⟩
        · rw [show (!decide (V.int (0 + (i : Int)) = V.int (0 + (j : Int)))) = true by rw [decide_eq_false (fun z => e (by have := V.int.inj z; omega))]; rfl]
          have li := wl _ (getD_mem hi)
          have lj := wl _ (getD_mem hj)
          have ai : atI (W.map sV) (0 + (i : Int)) = some (sV (W.getD i [])) := by
            rw [Int.zero_add]
            exact atI_nat (sV_at hi)
          have aj : atI (W.map sV) (0 + (j : Int)) = some (sV (W.getD j [])) := by
            rw [Int.zero_add]
            exact atI_nat (sV_at hj)
          refine ⟨_, rfl, _, rfl, _, _, _, _, rfl, rfl, SqL.of ha, aj, _, rfl, _, rfl, _, _, _, _, rfl, rfl, SqL.of ha, ai, _, rfl, (by rw [sOf_len]; exact sz (by omega)), _, rfl, _, rfl, (by rw [sOf_len]; exact sz (by omega)), _, rfl, _, rfl, _, _, _, _, rfl, rfl, SqL.of ha, ai, rfl, _, rfl, ?_⟩
          have hd : decide (V.str (sOf ((W.getD j []).take (W.getD i []).length)) = sV (W.getD i [])) = false := decide_eq_false (fun z => ap i j hi hj e (sOf_inj (V.str.inj z)))
          rw [sOf_len, cutS_upto, hd]
          exact ⟨_, rfl, rfl⟩
      · rintro σ H2 ⟨y2, rfl, rfl⟩
        exact ⟨_, _, rfl, rfl⟩
    · rintro σ H1 ⟨y1, y2, rfl, rfl⟩
      exact q
theorem str_yes : PySem.W.kitOne K (.type "str") (.type "str") = some true := kit_ty (by decide +kernel)
theorem sign_eq (c d : Nat) : decide (V.str ⟨#[c]⟩ = V.str (sOf [d])) = decide (c = d) := by
  apply decide_eq_decide.mpr
  exact ⟨fun h => by
    have h2 : sOf [c] = sOf [d] := V.str.inj h
    have := sOf_inj h2
    simp_all, fun h => by rw [h]; rfl⟩
theorem rep_more (i : Nat) : (List.replicate i true).map V.bl ++ [V.bl true] = (List.replicate (i + 1) true).map V.bl := by
  rw [List.replicate_succ', List.map_append]
  rfl
theorem rep_all (n : Nat) : (List.replicate n true).all id = true := by
  rw [List.all_eq_true]
  intro x hx
  exact (List.mem_replicate.mp hx).2
def spFit : Sp := fun vs H Q _ => ∃ (wd : List Nat) (n : Int), vs = [.str (sOf wd), .int n] ∧ Bits wd ∧ n = wd.length ∧ wd.length ≤ 12 ∧ ∀ H', Same H H' → Q (.bl true) H'
theorem ok_fit {A : Ad} (T : Txt w K mg base A) : FnOk P w K mg base CX0 1 A.a_fit A.d_fit P_fit spFit := by
  refine T.F_fit.ok sc_fit (fun vs H Q E h => ?_) (fun cdv Ar outer s H vs Q E hr h => ?_)
  · obtain ⟨wd, n, rfl, _⟩ := h
    rfl
  · obtain ⟨wd, _, rfl, hb, rfl, l12, q⟩ := h
    refine ⟨_, (pss_cons (ps_if (PW.pt (pw_or (pt_not (pt_val (pe_callB (r := rIsi K) call_isi (by rfl) T.z_isinstance (by decide +kernel) (pa_cons (pv 0) (pa_cons (pe_bltn (v := .ty "str") (by rfl) T.z_str (by decide +kernel) rfl) pa_nil))))) (pw_or1 (pt_cmpR op_ne (pe_callB call_len_str (by rfl) T.z_len PySem.boot_len (pa_cons (pv 0) pa_nil)) (pv 1) (nomark _)))))
      (pss_one (ps_ret pe_bl)) pss_nil)
      (pss_one (ps_ret (pe_callB (cr_all rfl) (by rfl) T.z_all (by decide +kernel) (pa_cons (pe_lc (own := [("_law_bit", 2)]) (g := gName 2) (tt := tYes) (by rfl) sc_fit.nd (pi_str (pv 0)) (blkOk_by (own := [("_law_bit", 2)]) (N := N_fit) (sc := defScope s_fit) (by decide +kernel)) (fun _ _ _ _ _ => pg_name (i := 2) sc_fit.nd rfl (Or.inl rfl)) (fun _ _ _ _ _ => pts_nil) (fun _ _ _ _ _ => (pe_or (pe_cmpR op_eq (pv 2) pe_str (nomark _)) (pe_one (pe_cmpR op_eq (pv 2) pe_str (nomark _)))))) pa_nil))))), ?_⟩
    have hl : (sOf wd).length ≤ sizeLine := by
      rw [sOf_len]
      exact sz (by omega)
    refine ⟨_, rfl, _, _, _, _, true, rfl, ClsV.ty _, TyX.base (.str _), str_yes, _, rfl, ?_⟩
    refine ⟨_, rfl, _, rfl, hl, _, rfl, rfl, _, rfl, ?_⟩
    rw [show (!decide (V.int ((sOf wd).length : Int) = V.int (wd.length : Int))) = false by rw [sOf_len, decide_eq_true rfl]; rfl]
    refine ⟨_, rfl, _, rfl, fun D hD => lc_it (walk_str (z := sOf wd)) (fun i H' => Same H H' ∧ H' D = some (.lst ((List.replicate i true).map V.bl))) ⟨same_new hD, upd_same⟩ (fun _ _ _ _ => trivial) ?_ ?_⟩
    · rintro i x H1 H2 hi ⟨sm, hD1⟩ ⟨rfl, c, hc, rfl⟩
      have hc' : wd[i]? = some c := by simpa [sOf] using hc
      have sz1 : (sOf wd).cps.size = wd.length := by simp [sOf]
      have fin : ∃ acc, H2 D = some (.lst acc) ∧ acc.length < sizeLine ∧ Same H (upd H2 D (.lst (acc ++ [V.bl true]))) ∧ upd H2 D (.lst (acc ++ [V.bl true])) D = some (.lst ((List.replicate (i + 1) true).map V.bl)) := by
        refine ⟨_, hD1, ?_, Same.mut sm hD, ?_⟩
        · rw [List.length_map, List.length_replicate]
          exact szl (by omega)
        · rw [upd_same, rep_more]
      refine ⟨rfl, _, rfl, rfl, _, rfl, ?_⟩
      rw [show decide (V.str ⟨#[c]⟩ = V.str (Str.ofString "0")) = decide (c = 48) from sign_eq c 48]
      rcases hb c (List.mem_of_getElem? hc') with e | e
      · rw [decide_eq_true e]
        exact fin
      · rw [decide_eq_false (by rw [e]; decide)]
        refine ⟨_, rfl, rfl, ?_⟩
        rw [show decide (V.str ⟨#[c]⟩ = V.str (Str.ofString "1")) = decide (c = 49) from sign_eq c 49, decide_eq_true e]
        exact fin
    · rintro H1 ⟨sm, hD1⟩
      refine ⟨_, _, rfl, SqL.of hD1, ?_⟩
      rw [rep_all]
      exact q H1 sm
theorem extN_seq {H H' : Hp} {a : Addr} {xs : List V} (e : LamX.ExtN H H') (h : SqL K H a xs) : SqL K H' a xs := by
  rcases h with (h | ⟨o, h⟩) | h
  · exact .inl (.inl (e _ _ h (fun ps z => by cases z)))
  · exact .inl (.inr ⟨o, e _ _ h (fun ps z => by cases z)⟩)
  · exact .inr h
def parts : List V := [.int 4096, .int 2048, .int 1024, .int 512, .int 256, .int 128, .int 64, .int 32, .int 16, .int 8, .int 4, .int 2, .int 1]
theorem parts_at {n : Nat} (h : n ≤ 12) : parts[n]? = some (.int ((wt n : Nat) : Int)) := by
  have : ∀ n : Nat, n ≤ 12 → parts[n]? = some (.int ((wt n : Nat) : Int)) := by decide +kernel
  exact this n h
def wts (ns : List Nat) : List Int := ns.map fun n => ((wt n : Nat) : Int)
theorem wts_sum (ns : List Nat) : (wts ns).sum = (((ns.map wt).sum : Nat) : Int) := by
  induction ns with
  | nil => rfl
  | cons n r ih =>
    show (((wt n : Nat) : Int) :: wts r).sum = _
    rw [List.sum_cons, ih, List.map_cons, List.sum_cons]
    omega
def spLaw (K : PySem.W.Frag) (p : Addr) : Sp := fun vs H Q _ => ∃ (a : Addr) (ns : List Int), vs = [.ref a] ∧ SqL K H a (ns.map V.int) ∧ ns.length ≤ 63 ∧ H p = some (.tbl #[]) ∧ ∀ H', Q (.bl true) H'
theorem ok_law {A : Ad} (T : Txt w K mg base A) : FnOk P w K mg base CX0 4 A.a_law A.d_law P_law (spLaw K A.p_making_order) := by
  have G_lengths := ok_lengths (P := P) (w := w) (base := base) T
  have G_asked := ok_asked (P := P) (w := w) (base := base) T
  have G_bag := ok_bag (P := P) (w := w) (base := base) T
  have G_apart := ok_apart (P := P) (w := w) (base := base) T
  have G_fit := ok_fit (P := P) (w := w) (base := base) T
  refine T.F_law.ok sc_law (fun vs H Q E h => ?_) (fun cdv Ar outer s H vs Q E hr h => ?_)
  · obtain ⟨a, ns, rfl, _⟩ := h
    rfl
  · obtain ⟨a, ns, rfl, hS, ln, hP, q⟩ := h
    refine ⟨_, (pss_cons (ps_set (i := 1) sc_law.nd rfl (by first | exact Or.inl rfl | exact Or.inr rfl) (pe_lst (pa_cons pe_int (pa_cons pe_int (pa_cons pe_int (pa_cons pe_int (pa_cons pe_int (pa_cons pe_int (pa_cons pe_int (pa_cons pe_int (pa_cons pe_int (pa_cons pe_int (pa_cons pe_int (pa_cons pe_int (pa_cons pe_int pa_nil)))))))))))))))
      (pss_cons (ps_for PassesOwn.never rfl (pi_range1 (by rfl) T.z_range (pa_cons (pe_callB (call_max2 rfl) (by rfl) T.z_max (by decide +kernel) (pa_cons pe_int (pa_cons (pe_callB (call_min2 rfl) (by rfl) T.z_min (by decide +kernel) (pa_cons pe_int (pa_cons (pe_callB (r := fun xs H Q => ∃ p ys, xs = [.ref p] ∧ (SqL K H p ys ∨ SqT K H p ys) ∧ Q (.int ys.length) H) call_len_seq (by rfl) T.z_len PySem.boot_len (pa_cons (pv 0) pa_nil)) pa_nil))) pa_nil))) pa_nil)) (pg_name (i := 2) sc_law.nd rfl (Or.inl rfl))
      (pss_cons (ps_set (i := 3) sc_law.nd rfl (Or.inl rfl) (pe_call G_lengths (hr.mono (by decide)) (by rfl) T.g_lengths T.F_lengths.kp T.b_lengths .nil pass0 (pa_cons (pe_call G_bag (hr.mono (by decide)) (by rfl) T.g_bag T.F_bag.kp T.b_bag .nil pass0 (pa_cons (pv 0) (pa_cons (pv 2) pa_nil))) pa_nil)))
      (pss_cons (ps_set (i := 4) sc_law.nd rfl (Or.inl rfl) (pe_call G_asked (hr.mono (by decide)) (by rfl) T.g_asked T.F_asked.kp T.b_asked .nil pass0 (pa_cons (pv 3) pa_nil)))
      (pss_cons (ps_if (pt_cmpR op_ne (pe_cmpR op_isN (pv 4) pe_non (nomark _)) (pe_cmpR op_gt (pe_callB (cr_sum rfl) (by rfl) T.z_sum (by decide +kernel) (pa_cons (pe_lc (own := [("_law_length", 5)]) (g := gName 5) (tt := tYes) (by rfl) sc_law.nd (pi_list (pv 3)) (blkOk_by (own := [("_law_length", 5)]) (N := N_law) (sc := defScope s_law) (by decide +kernel)) (fun _ _ _ _ _ => pg_name (i := 5) sc_law.nd rfl (Or.inl rfl)) (fun _ _ _ _ _ => pts_nil) (fun _ _ _ _ _ => (pe_ix (r := rIxL K) ix_list (pv 1) (pv 5) (fun _ _ => rfl)))) pa_nil)) pe_int (nomark _)) (nomark _))
      (pss_one (ps_ret pe_bl)) pss_nil)
      (pss_one (ps_if (pt_cmpR op_notN (pv 4) pe_non (nomark _))
      (pss_cons (ps_if (PW.pt (pw_or (pt_cmpR op_ne (pe_callB (r := fun xs H Q => ∃ p ys, xs = [.ref p] ∧ (SqL K H p ys ∨ SqT K H p ys) ∧ Q (.int ys.length) H) call_len_seq (by rfl) T.z_len PySem.boot_len (pa_cons (pv 4) pa_nil)) (pe_callB (r := fun xs H Q => ∃ p ys, xs = [.ref p] ∧ (SqL K H p ys ∨ SqT K H p ys) ∧ Q (.int ys.length) H) call_len_seq (by rfl) T.z_len PySem.boot_len (pa_cons (pv 3) pa_nil)) (nomark _)) (pw_or1 (pt_not (pt_val (pe_call G_apart (hr.mono (by decide)) (by rfl) T.g_apart T.F_apart.kp T.b_apart .nil pass0 (pa_cons (pv 4) pa_nil)))))))
      (pss_one (ps_ret pe_bl)) pss_nil)
      (pss_one (ps_if (pt_not (pt_val (pe_callB (cr_all rfl) (by rfl) T.z_all (by decide +kernel) (pa_cons (pe_lc (own := [("_law_word", 6), ("_law_length", 5)]) (g := gTup K 2 (gCons (gName 6) (gCons (gName 5) gNil))) (tt := tYes) (by rfl) sc_law.nd (pi_zip (by rfl) T.z_zip (pa_cons (pv 4) (pa_cons (pv 3) pa_nil))) (blkOk_by (own := [("_law_word", 6), ("_law_length", 5)]) (N := N_law) (sc := defScope s_law) (by decide +kernel)) (fun _ _ _ _ _ => pg_tup (by rfl) (pgs_cons (pg_name (i := 6) sc_law.nd rfl (Or.inl rfl)) (pgs_cons (pg_name (i := 5) sc_law.nd rfl (Or.inl rfl)) pgs_nil))) (fun _ _ _ _ _ => pts_nil) (fun _ _ _ _ _ => (pe_call G_fit (hr.mono (by decide)) (by rfl) T.g_fit T.F_fit.kp T.b_fit .nil pass0 (pa_cons (pv 6) (pa_cons (pv 5) pa_nil))))) pa_nil))))
      (pss_one (ps_ret pe_bl)) pss_nil))) pss_nil))))))
      (pss_one (ps_ret pe_bl)))), ?_⟩
    refine ⟨(by show 13 ≤ sizeLine; decide), fun pp hpp => ?_⟩
    have s0 : Same H (upd H pp (.lst parts)) := same_new hpp
    refine ⟨_, rfl, a, _, rfl, .inl (s0.seq hS), _, _, rfl, _, _, rfl, _, rfl, ?_, ?_, for_range (fun i σ H' => ∃ (y2 y3 y4 y5 y6 : Option V), σ = [some (.ref a), some (.ref pp), y2, y3, y4, y5, y6] ∧ LamX.ExtN (upd H pp (.lst parts)) H' ∧ LamX.Tabs (TT A.p_making_order) H')
      ⟨none, none, none, none, none, rfl, LamX.ExtN.refl _, ?_⟩ ?_ ?_⟩
    · rw [List.length_map]
      split <;> split <;> omega
    · rw [List.length_map]
      split <;> split <;> omega
    · intro z hz
      rw [List.mem_singleton.mp hz]
      exact LamX.TabS.nil (s0 _ _ hP)
    · rintro i σ H1 hi ⟨y2, y3, y4, y5, y6, rfl, eN1, T1⟩
      have hi8 : i < 64 := by
        rw [List.length_map] at hi
        revert hi
        split <;> split <;> omega
      refine ⟨_, rfl, _, rfl, a, ns, _, rfl, extN_seq eN1 (s0.seq hS), by omega, by omega, fun b g s hb g0 s0' s1' => ?_⟩
      refine ⟨b, rfl, BagAt.new g0 s0' s1', fun lq ls H2 l1 l40 n12 bx fq hq => ?_⟩
      have s12 : Same H1 H2 := bx.back (same_new hb) hb
      have T2 := tabs_same T1 s12
      have hn : ∀ n ∈ ls, n ≤ 12 := fun n hh => (n12 n hh).2
      refine ⟨_, rfl, lq, ls, rfl, T2, hq, by omega, hn, fun v H3 eN3 T3 hv => ?_⟩
      have eA : LamX.ExtN (upd H pp (.lst parts)) H3 := (eN1.trans (extN_of s12)).trans eN3
      have hq3 : H3 lq = some (.lst (nvs ls)) := eN3 _ _ hq (fun ps z => by cases z)
      have hpp3 : H3 pp = some (.lst parts) := eA _ _ upd_same (fun ps z => by cases z)
      have whole := words_whole hn
      refine ⟨_, rfl, rfl, _, rfl, lq, rfl, ⟨_, SqL.of hq3⟩, fun D hD => lc_list (K := K) (a := lq) (xs := nvs ls) (fun i H' => Same H3 H' ∧ H' D = some (.lst ((wts (ls.take i)).map V.int))) ⟨same_new hD, upd_same⟩ (fun i H' _ hh => SqL.of (hh.1 _ _ hq3)) ?_ ?_⟩
      · rintro j x H4 hx ⟨sm, hD4⟩
        obtain ⟨n, hj, rfl⟩ : ∃ n, ls[j]? = some n ∧ V.int ((n : Nat) : Int) = x := by
          unfold nvs iv at hx
          rw [List.map_map, List.getElem?_map] at hx
          cases e : ls[j]? with
          | none =>
            rw [e] at hx
            cases hx
          | some n =>
            rw [e] at hx
            exact ⟨n, rfl, Option.some.inj hx⟩
        have jl := (List.getElem?_eq_some_iff.mp hj).1
        refine ⟨rfl, _, rfl, _, rfl, _, _, _, .int ((wt n : Nat) : Int), rfl, rfl, SqL.of (sm _ _ hpp3), atI_nat (parts_at (hn n (List.mem_of_getElem? hj))), ?_⟩
        refine ⟨_, hD4, ?_, Same.mut sm hD, ?_⟩
        · rw [List.length_map]
          unfold wts
          rw [List.length_map, List.length_take]
          exact szl (by omega)
        · rw [upd_same, take_more ls j n hj]
          unfold wts
          rw [List.map_append, List.map_append]
          rfl
      · rintro H4 ⟨sm, hD4⟩
        rw [nvs_len, List.take_length] at hD4
        refine ⟨D, wts ls, rfl, SqL.of hD4, _, _, rfl, rfl, rfl, _, rfl, ?_⟩
        rw [wts_sum]
        rcases hv with ⟨ok, rfl⟩ | ⟨ok, wa, rfl, hw⟩
        · have big := whole.1 ok
          refine ite2 (fun e => ?_) (fun _ => ?_)
          · rw [show ((fun i j => V.bl (decide (j < i))) (((ls.map wt).sum : Nat) : Int) (4096 : Int)) = V.bl true by show V.bl (decide _) = _; rw [decide_eq_true (by omega)], decide_eq_true rfl, decide_eq_true rfl] at e
            cases e
          · refine ⟨_, rfl, rfl, _, rfl, ?_⟩
            rw [show (!decide (V.non = V.non)) = false by rw [decide_eq_true rfl]; rfl]
            exact ⟨_, _, _, _, _, rfl, eA.trans (extN_of sm), tabs_same T3 sm⟩
        · obtain ⟨small, lw, each, ap⟩ := whole.2 ok
          have nr : decide (V.ref wa = V.non) = false := decide_eq_false (fun z => by cases z)
          refine ite2 (fun e => ?_) (fun _ => ?_)
          · rw [show ((fun i j => V.bl (decide (j < i))) (((ls.map wt).sum : Nat) : Int) (4096 : Int)) = V.bl false by show V.bl (decide _) = _; rw [decide_eq_false (by omega)], nr, decide_eq_true rfl] at e
            cases e
          · refine ⟨_, rfl, rfl, _, rfl, ?_⟩
            rw [nr]
            have hw4 := sm _ _ hw
            have hq4 := sm _ _ hq3
            have wl : ∀ w ∈ wordsOf ls, w.length ≤ 12 := fun w hm => by
              obtain ⟨k, hk, e⟩ := List.mem_iff_getElem.mp hm
              have h1 := each k (by omega)
              rw [List.getD_eq_getElem?_getD, List.getElem?_eq_getElem hk] at h1
              have h2 : w.length = ls.getD k 0 := by
                rw [← e]
                exact h1.2
              rw [h2, List.getD_eq_getElem?_getD, List.getElem?_eq_getElem (by omega)]
              exact hn _ (List.getElem_mem _)
            refine ⟨_, rfl, wa, _, rfl, .inl (SqL.of hw4), _, rfl, lq, _, rfl, .inl (SqL.of hq4), rfl, _, rfl, ?_⟩
            rw [show (!decide (V.int ((((wordsOf ls).map sV).length : Nat) : Int) = V.int (((nvs ls).length : Nat) : Int))) = false by rw [List.length_map, nvs_len, lw, decide_eq_true rfl]; rfl]
            refine ⟨_, rfl, wa, wordsOf ls, rfl, hw4, by omega, wl, (by rw [lw]; exact ap), _, rfl, ?_⟩
            refine ⟨_, rfl, _, rfl, wa, lq, _, _, rfl, SqL.of hw4, SqL.of hq4, fun D2 hD2 => lc_it (walk_zip (n := ls.length) (by rw [List.length_map, nvs_len, lw, Nat.min_self])) (fun i H' => Same H4 H' ∧ H' D2 = some (.lst ((List.replicate i true).map V.bl))) ⟨same_new hD2, upd_same⟩ (fun i H' _ hh => ⟨SqL.of (hh.1 _ _ hw4), SqL.of (hh.1 _ _ hq4)⟩) ?_ ?_⟩
            · rintro k x H5 H6 hk ⟨sm5, hD5⟩ ⟨Tp, x1, x2, rfl, fT, rfl, ex1, ex2⟩
              have e1 := sV_at (W := wordsOf ls) (p := k) (by omega)
              have e2 := nvs_at hk
              have ex1 : ((wordsOf ls).map sV)[k]? = some x1 := ex1
              have ex2 : (nvs ls)[k]? = some x2 := ex2
              rw [e1] at ex1
              rw [e2] at ex2
              cases ex1
              cases ex2
              have nD : D2 ≠ Tp := ne_of_none hD5 fT
              have ek := each k hk
              refine ⟨Tp, _, rfl, .inl (.inl upd_same), rfl, _, _, rfl, _, _, rfl, rfl, rfl, ?_⟩
              refine ⟨_, rfl, _, rfl, (wordsOf ls).getD k [], _, rfl, ek.1, (by rw [ek.2]), (by rw [ek.2]; have := wl _ (getD_mem (W := wordsOf ls) (p := k) (by omega)); omega), fun H7 s7 => ?_⟩
              refine ⟨_, s7 _ _ (by rw [upd_ne nD]; exact hD5), ?_, Same.mut ((sm5.trans (same_new fT)).trans s7) hD2, ?_⟩
              · rw [List.length_map, List.length_replicate]
                exact szl (by omega)
              · rw [upd_same, rep_more]
            · rintro H5 ⟨sm5, hD5⟩
              refine ⟨D2, _, rfl, SqL.of hD5, _, rfl, ?_⟩
              rw [rep_all]
              have sA := sm.trans sm5
              exact ⟨_, _, _, _, _, rfl, eA.trans (extN_of sA), tabs_same T3 sA⟩
    · rintro σ H1 ⟨y2, y3, y4, y5, y6, rfl, eN1, T1⟩
      exact q _
end
theorem all_mk {l : PySem.W.OpenLaw} {w : World} {K : PySem.W.Frag} {h : Heap} {mg : Str → Option Value} {fa : Addr} (X : K.In h) (G : h.Ns mainGlobals mg) (hfa : mg "law" = some (.ref fa))
    {f0 f1 f2 f3 f4 f5 f6 f7 f8 f9 : Addr}
    {x_NoWords : Addr}
    {od0 an0 od1 an1 od2 an2 od3 an3 od4 an4 od5 an5 od6 an6 od7 an7 od8 an8 od9 an9 : Option Addr}
    {sl0 sl1 sl2 sl3 sl4 sl5 sl6 sl7 sl8 sl9 : Array (Option Value)}
    {oc0 kV0 dc0 pm0 ct0 cd0 oc1 kV1 dc1 pm1 ct1 oc2 kV2 dc2 pm2 ct2 cd2 oc3 kV3 dc3 pm3 ct3 cd3 oc4 kV4 dc4 pm4 ct4 cd4 oc5 kV5 dc5 pm5 ct5 cd5 oc6 kV6 dc6 pm6 ct6 cd6 oc7 kV7 dc7 pm7 ct7 cd7 oc8 kV8 dc8 pm8 ct8 cd8 oc9 kV9 dc9 pm9 ct9 cd9 : Value}
    {k_making_order p_making_order : Addr}
    (a0 : PySem.W.nsIn K mainGlobals "words_by" = some (some (.ref f0))) (l0 : K.lookup f0 = some ⟨oc0, od0, .func (PySem.W.fnOf "words_by" "words_by" (defArgs s_words_by) (defBody s_words_by) (defScope s_words_by) .none kV0 dc0 pm0 an0 cd0 ct0), sl0⟩) (c0 : PySem.W.codeIn K cd0 "words_by" = true) (k0 : PySem.W.keepIn K (.ref f0) = true)
    (a1 : PySem.W.nsIn K mainGlobals "making_order" = some (some (.ref f1))) (l1 : K.lookup f1 = some ⟨oc1, od1, .func (PySem.W.fnOf "making_order" "making_order" (defArgs s_making_order) (defBody s_making_order) (defScope s_making_order) .none kV1 dc1 pm1 an1 (.ref k_making_order) ct1), sl1⟩) (c1 : PySem.W.codeIn K (.ref k_making_order) "making_order" = true) (k1 : PySem.W.keepIn K (.ref f1) = true)
    (hT_making_order : h.get? p_making_order = some (PySem.W.tabObj #[])) (hd_making_order : PySem.W.codeHdIn K k_making_order p_making_order = true) (nT_making_order : K.lookup p_making_order = none)
    (a2 : PySem.W.nsIn K mainGlobals "one_less" = some (some (.ref f2))) (l2 : K.lookup f2 = some ⟨oc2, od2, .func (PySem.W.fnOf "one_less" "one_less" (defArgs s_one_less) (defBody s_one_less) (defScope s_one_less) .none kV2 dc2 pm2 an2 cd2 ct2), sl2⟩) (c2 : PySem.W.codeIn K cd2 "one_less" = true) (k2 : PySem.W.keepIn K (.ref f2) = true)
    (a3 : PySem.W.nsIn K mainGlobals "_law_bag" = some (some (.ref f3))) (l3 : K.lookup f3 = some ⟨oc3, od3, .func (PySem.W.fnOf "_law_bag" "_law_bag" (defArgs s_bag) (defBody s_bag) (defScope s_bag) .none kV3 dc3 pm3 an3 cd3 ct3), sl3⟩) (c3 : PySem.W.codeIn K cd3 "_law_bag" = true) (k3 : PySem.W.keepIn K (.ref f3) = true)
    (a4 : PySem.W.nsIn K mainGlobals "_law_draw" = some (some (.ref f4))) (l4 : K.lookup f4 = some ⟨oc4, od4, .func (PySem.W.fnOf "_law_draw" "_law_draw" (defArgs s_draw) (defBody s_draw) (defScope s_draw) .none kV4 dc4 pm4 an4 cd4 ct4), sl4⟩) (c4 : PySem.W.codeIn K cd4 "_law_draw" = true) (k4 : PySem.W.keepIn K (.ref f4) = true)
    (a5 : PySem.W.nsIn K mainGlobals "_law_lengths" = some (some (.ref f5))) (l5 : K.lookup f5 = some ⟨oc5, od5, .func (PySem.W.fnOf "_law_lengths" "_law_lengths" (defArgs s_lengths) (defBody s_lengths) (defScope s_lengths) .none kV5 dc5 pm5 an5 cd5 ct5), sl5⟩) (c5 : PySem.W.codeIn K cd5 "_law_lengths" = true) (k5 : PySem.W.keepIn K (.ref f5) = true)
    (a6 : PySem.W.nsIn K mainGlobals "_law_asked" = some (some (.ref f6))) (l6 : K.lookup f6 = some ⟨oc6, od6, .func (PySem.W.fnOf "_law_asked" "_law_asked" (defArgs s_asked) (defBody s_asked) (defScope s_asked) .none kV6 dc6 pm6 an6 cd6 ct6), sl6⟩) (c6 : PySem.W.codeIn K cd6 "_law_asked" = true) (k6 : PySem.W.keepIn K (.ref f6) = true)
    (a7 : PySem.W.nsIn K mainGlobals "_law_apart" = some (some (.ref f7))) (l7 : K.lookup f7 = some ⟨oc7, od7, .func (PySem.W.fnOf "_law_apart" "_law_apart" (defArgs s_apart) (defBody s_apart) (defScope s_apart) .none kV7 dc7 pm7 an7 cd7 ct7), sl7⟩) (c7 : PySem.W.codeIn K cd7 "_law_apart" = true) (k7 : PySem.W.keepIn K (.ref f7) = true)
    (a8 : PySem.W.nsIn K mainGlobals "_law_fit" = some (some (.ref f8))) (l8 : K.lookup f8 = some ⟨oc8, od8, .func (PySem.W.fnOf "_law_fit" "_law_fit" (defArgs s_fit) (defBody s_fit) (defScope s_fit) .none kV8 dc8 pm8 an8 cd8 ct8), sl8⟩) (c8 : PySem.W.codeIn K cd8 "_law_fit" = true) (k8 : PySem.W.keepIn K (.ref f8) = true)
    (a9 : PySem.W.nsIn K mainGlobals "law" = some (some (.ref f9))) (l9 : K.lookup f9 = some ⟨oc9, od9, .func (PySem.W.fnOf "law" "law" (defArgs s_law) (defBody s_law) (defScope s_law) .none kV9 dc9 pm9 an9 cd9 ct9), sl9⟩) (c9 : PySem.W.codeIn K cd9 "law" = true) (k9 : PySem.W.keepIn K (.ref f9) = true)
    (xa_NoWords : PySem.W.nsIn K mainGlobals "NoWords" = some (some (.ref x_NoWords))) (xq_NoWords : PySem.W.excIn K x_NoWords veB "ValueError.__new__" = true) (xk_NoWords : PySem.W.keepIn K (.ref x_NoWords) = true) (xs_NoWords : PySem.W.subIn K (.ref x_NoWords) (.type "BaseException") = some true) (xt_NoWords : PySem.W.typeIn K (.ref x_NoWords) = some (.type "type")) (xi_NoWords : PySem.W.isClsIn K x_NoWords = true) (xu_NoWords : PySem.W.subIn K (.ref x_NoWords) (.ref x_NoWords) = some true)
    (z_abs : PySem.W.nsIn K mainGlobals "abs" = some none)
    (z_all : PySem.W.nsIn K mainGlobals "all" = some none)
    (z_isinstance : PySem.W.nsIn K mainGlobals "isinstance" = some none)
    (z_len : PySem.W.nsIn K mainGlobals "len" = some none)
    (z_list : PySem.W.nsIn K mainGlobals "list" = some none)
    (z_max : PySem.W.nsIn K mainGlobals "max" = some none)
    (z_min : PySem.W.nsIn K mainGlobals "min" = some none)
    (z_range : PySem.W.nsIn K mainGlobals "range" = some none)
    (z_sorted : PySem.W.nsIn K mainGlobals "sorted" = some none)
    (z_str : PySem.W.nsIn K mainGlobals "str" = some none)
    (z_sum : PySem.W.nsIn K mainGlobals "sum" = some none)
    (z_zip : PySem.W.nsIn K mainGlobals "zip" = some none)
    : LamX.LawAtS l w K CX0 4 63 "_law_script" mg fa h := by
  have e := hfa.symm.trans (PySem.W.mg_of X G a9)
  cases e
  have F0 := fun_mk (st := s_words_by) l0 c0 k0
  have b0 := F0.binds (ps := P_words_by) fun _ _ _ _ _ _ us hl => match us, hl with | [_], _ => rfl
  have F1 := fun_mk (st := s_making_order) l1 c1 k1
  have b1 := F1.binds (ps := P_making_order) fun _ _ _ _ _ _ us hl => match us, hl with | [_], _ => rfl
  have F2 := fun_mk (st := s_one_less) l2 c2 k2
  have b2 := F2.binds (ps := P_one_less) fun _ _ _ _ _ _ us hl => match us, hl with | [_], _ => rfl
  have F3 := fun_mk (st := s_bag) l3 c3 k3
  have b3 := F3.binds (ps := P_bag) fun _ _ _ _ _ _ us hl => match us, hl with | [_, _], _ => rfl
  have F4 := fun_mk (st := s_draw) l4 c4 k4
  have b4 := F4.binds (ps := P_draw) fun _ _ _ _ _ _ us hl => match us, hl with | [_, _], _ => rfl
  have F5 := fun_mk (st := s_lengths) l5 c5 k5
  have b5 := F5.binds (ps := P_lengths) fun _ _ _ _ _ _ us hl => match us, hl with | [_], _ => rfl
  have F6 := fun_mk (st := s_asked) l6 c6 k6
  have b6 := F6.binds (ps := P_asked) fun _ _ _ _ _ _ us hl => match us, hl with | [_], _ => rfl
  have F7 := fun_mk (st := s_apart) l7 c7 k7
  have b7 := F7.binds (ps := P_apart) fun _ _ _ _ _ _ us hl => match us, hl with | [_], _ => rfl
  have F8 := fun_mk (st := s_fit) l8 c8 k8
  have b8 := F8.binds (ps := P_fit) fun _ _ _ _ _ _ us hl => match us, hl with | [_, _], _ => rfl
  have F9 := fun_mk (st := s_law) l9 c9 k9
  refine ⟨PySem.W.fnOf "law" "law" (defArgs s_law) (defBody s_law) (defScope s_law) .none kV9 dc9 pm9 an9 cd9 ct9, [(k_making_order, p_making_order)], spLaw K p_making_order, ?_, ?_, ?_, fun s v => .of_eq rfl, ?_, fun base kb nb tb => ?_⟩
  · intro q hq; rw [List.mem_singleton.mp hq]; exact hT_making_order
  · intro q hq; rw [List.mem_singleton.mp hq]; exact nT_making_order
  · intro q hq; rw [List.mem_singleton.mp hq]; exact PySem.W.codeHd_of_K X hd_making_order
  · exact fun H a ns hl _ hH hS => ⟨a, ns, rfl, hS, hl, hH _ (List.mem_singleton.mpr rfl), fun _ => rfl⟩
  · exact ok_law (A := ⟨f0, _, f1, _, f2, _, f3, _, f4, _, f5, _, f6, _, f7, _, f8, _, fa, _, k_making_order, p_making_order, x_NoWords⟩) ⟨F0, b0, PySem.W.mg_of X G a0, F1, b1, PySem.W.mg_of X G a1, F2, b2, PySem.W.mg_of X G a2, F3, b3, PySem.W.mg_of X G a3, F4, b4, PySem.W.mg_of X G a4, F5, b5, PySem.W.mg_of X G a5, F6, b6, PySem.W.mg_of X G a6, F7, b7, PySem.W.mg_of X G a7, F8, b8, PySem.W.mg_of X G a8, F9, PySem.W.mg_of X G a9, tb _ (List.mem_singleton.mpr rfl), ⟨_, _, _, _, _, _, _, _, l1, c1⟩, PySem.W.mg_of X G xa_NoWords, xq_NoWords, xk_NoWords, xs_NoWords, xt_NoWords, exm_own xs_NoWords xi_NoWords xt_NoWords xu_NoWords, PySem.W.mg_none_of X G z_abs, PySem.W.mg_none_of X G z_all, PySem.W.mg_none_of X G z_isinstance, PySem.W.mg_none_of X G z_len, PySem.W.mg_none_of X G z_list, PySem.W.mg_none_of X G z_max, PySem.W.mg_none_of X G z_min, PySem.W.mg_none_of X G z_range, PySem.W.mg_none_of X G z_sorted, PySem.W.mg_none_of X G z_str, PySem.W.mg_none_of X G z_sum, PySem.W.mg_none_of X G z_zip⟩
end K06
open PySem PySem.W PyProof.Rows
set_option maxHeartbeats 0 in
theorem PySem.Challenge.cw_farpage_k06_whole_no_word_begins_another_holds : PySem.Challenge.rw_farpage_k06_whole_no_word_begins_another.Holds := by
  w_on; o_law; k_head; (case hw => w_witness2)
  k_fill
  refine LamX.walk_ofTs (l := PySem.Challenge.rw_farpage_k06_whole_no_word_begins_another) (n := 63) (k := 4) (x := "_law_script") (CX := fun _ => L2.CX0) rfl (by decide) rfl ⟨rfl, by decide, by decide⟩ (fun w h Y => PySem.W.km_in_of Y) ?F (fun _ _ _ _ _ h => h)
  case F =>
    intro w mg fa h Y KX G hmg
    have tabs := PySem.W.km_tabs_of Y
    refine' K06.all_mk KX G hmg ?a0 ?l0 ?c0 ?k0 ?a1 ?l1 ?c1 ?k1 ?hT_making_order ?hd_making_order ?nT_making_order ?a2 ?l2 ?c2 ?k2 ?a3 ?l3 ?c3 ?k3 ?a4 ?l4 ?c4 ?k4 ?a5 ?l5 ?c5 ?k5 ?a6 ?l6 ?c6 ?k6 ?a7 ?l7 ?c7 ?k7 ?a8 ?l8 ?c8 ?k8 ?a9 ?l9 ?c9 ?k9 ?xa_NoWords ?xq_NoWords ?xk_NoWords ?xs_NoWords ?xt_NoWords ?xi_NoWords ?xu_NoWords ?z_abs ?z_all ?z_isinstance ?z_len ?z_list ?z_max ?z_min ?z_range ?z_sorted ?z_str ?z_sum ?z_zip
    (case a0 => k_is)
    (case l0 => k_is)
    (case c0 => k_is)
    (case k0 => k_is)
    (case a1 => k_is)
    (case l1 => k_is)
    (case c1 => k_is)
    (case k1 => k_is)
    (case hT_making_order => exact tabs _ (List.mem_singleton.mpr rfl))
    (case hd_making_order => first | k_is | exact rfl | kernel_rfl)
    (case nT_making_order => first | exact rfl | kernel_rfl)
    (case a2 => k_is)
    (case l2 => k_is)
    (case c2 => k_is)
    (case k2 => k_is)
    (case a3 => k_is)
    (case l3 => k_is)
    (case c3 => k_is)
    (case k3 => k_is)
    (case a4 => k_is)
    (case l4 => k_is)
    (case c4 => k_is)
    (case k4 => k_is)
    (case a5 => k_is)
    (case l5 => k_is)
    (case c5 => k_is)
    (case k5 => k_is)
    (case a6 => k_is)
    (case l6 => k_is)
    (case c6 => k_is)
    (case k6 => k_is)
    (case a7 => k_is)
    (case l7 => k_is)
    (case c7 => k_is)
    (case k7 => k_is)
    (case a8 => k_is)
    (case l8 => k_is)
    (case c8 => k_is)
    (case k8 => k_is)
    (case a9 => k_is)
    (case l9 => k_is)
    (case c9 => k_is)
    (case k9 => k_is)
    (case xa_NoWords => k_is)
    (case xq_NoWords => k_exc)
    (case xk_NoWords => k_is)
    (case xs_NoWords => k_is)
    (case xt_NoWords => k_is)
    (case xi_NoWords => k_is)
    (case xu_NoWords => first | rfl | k_is)
    (case z_abs => k_is)
    (case z_all => k_is)
    (case z_isinstance => k_is)
    (case z_len => k_is)
    (case z_list => k_is)
    (case z_max => k_is)
    (case z_min => k_is)
    (case z_range => k_is)
    (case z_sorted => k_is)
    (case z_str => k_is)
    (case z_sum => k_is)
    (case z_zip => k_is)
