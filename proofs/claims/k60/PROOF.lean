import PyProof.Rows.All
import Wide.All
import OpenK.AllK
import Wide.FinOn
import HandS.ForMost
import HandS.IsInst
import HandS.StrMore
import HandS.Codes
import HandS.Evl
import HandS.TupAny
import HandS.TupMul
import HandS.Walk
import PyProof.Rows.StrJoinRep
import HandS.WideBits
import HandS.More
import HandS.DictComp
import HandS.Style
import HandS.Conv
import HandS.Small
import PySem.Challenge.RW_farpage_k60_stories_of_books
set_option Elab.async false
set_option linter.all false
set_option maxRecDepth 100000
set_option maxHeartbeats 4000000
/-! Rules of our own over the hand layer: a sign times an int, list(text), ljust with a sign. -/
namespace Fp
open PySem L2 PyProof.Rows
/-- a text by its codes -/
def sOf (l : List Nat) : Str := ⟨l.toArray⟩
theorem sOf_list (l : List Nat) : (sOf l).cps.toList = l := by simp [sOf]
theorem sOf_len (l : List Nat) : (sOf l).length = l.length := by simp [sOf, Str.length]
theorem of_list {z : Str} {l : List Nat} (h : z.cps.toList = l) : z = sOf l := str_of_list (by rw [h, sOf_list])
theorem sOf_inj {l m : List Nat} (h : sOf l = sOf m) : l = m := by
  have := congrArg (fun z => z.cps.toList) h
  simpa [sOf] using this
theorem sOf_app (l m : List Nat) : sOf l ++ sOf m = sOf (l ++ m) := by
  apply of_list
  show ((sOf l) ++ (sOf m)).cps.toList = l ++ m
  rw [show ((sOf l) ++ (sOf m)).cps = (sOf l).cps ++ (sOf m).cps from rfl]
  simp [sOf]
section
variable {X : Cx}
theorem op_mul_str : OpR X (binaryOp .Mult) (fun x y H Q => ∃ c n, x = .str (sOf [c]) ∧ y = .int n ∧ (-100000 ≤ n ∧ n ≤ 100000) ∧ Q (.str (sOf (List.replicate n.toNat c))) H) := by
  intro pins s σ H x y v u Q I rx ry h
  obtain ⟨c, n, rfl, rfl, hz, q⟩ := h
  obtain ⟨t, rfl⟩ := rx
  obtain ⟨t', rfl⟩ := ry
  refine SB.mul (mulOk_of 1 100000 (by rw [sOf_len]; exact Nat.le_refl _) (by omega) (by omega) (by decide) (by decide)) fun t' k => ?_
  have e : Txt.mul (sOf [c]) n = sOf (List.replicate n.toNat c) := of_list (mul_one_list c n)
  rw [e]
  exact ⟨.str (sOf (List.replicate n.toNat c)), H, I.tok _, ⟨_, rfl⟩, q⟩
theorem padOk {i : Int} (h0 : 0 ≤ i) (h1 : i ≤ 100000) : PadOk i = true := padOk_of (by omega) (by omega)
theorem mt_ljustF : MtR X "str.ljust" (fun x xs H Q => ∃ (l : List Nat) (i : Int) (c : Nat), x = .str (sOf l) ∧ xs = [.int i, .str (sOf [c])] ∧ (0 ≤ i ∧ i ≤ 100000) ∧ Q (.str (sOf (l ++ List.replicate (i.toNat - l.length) c))) H) := by
  intro pins s σ H x xs v us Q I rx rs h
  obtain ⟨l, i, c, rfl, rfl, hz, q⟩ := h
  obtain ⟨t, rfl⟩ := rx
  obtain ⟨u, w', rfl, ⟨t', rfl⟩, ⟨t'', rfl⟩⟩ := vals2 rs
  refine ljust_fill (padOk hz.1 hz.2) (sOf_len _) fun t' k => ?_
  have e : Txt.ljustF (sOf l) i ((sOf [c]).cps.getD 0 0) = sOf (l ++ List.replicate (i.toNat - l.length) c) := of_list (by
    rw [ljustF_list, sOf_list, sOf_len]
    rfl)
  rw [e]
  exact ⟨.str (sOf (l ++ List.replicate (i.toNat - l.length) c)), H, I.tok _, ⟨_, rfl⟩, q⟩
theorem vals_signs {acc : List Value} {l : List Nat} (h1 : acc.length = l.length) (h2 : ∀ (j : Nat) v, acc[j]? = some v → ∃ c u, l[j]? = some c ∧ v = .str ⟨#[c]⟩ u) : Vals (l.map fun c => V.str (sOf [c])) acc := by
  induction l generalizing acc with
  | nil =>
    cases acc with
    | nil => exact .nil
    | cons a r => simp at h1
  | cons c r ih =>
    cases acc with
    | nil => simp at h1
    | cons a b =>
      obtain ⟨c', u, e, rfl⟩ := h2 0 a rfl
      have e2 : c' = c := by simpa using e.symm
      subst e2
      exact .cons ⟨u, rfl⟩ (ih (by simpa using h1) fun j v hj => h2 (j + 1) v hj)
theorem call_list_str (hc : X.calm = true) : CallR X (.type "list") (fun xs H Q => ∃ z : List Nat, xs = [.str (sOf z)] ∧ z.length ≤ 100000 ∧ ∀ l, H l = none → Q (.ref l) (upd H l (.lst (z.map fun c => V.str (sOf [c]))))) := by
  intro pins s σ H xs us Q I r h
  obtain ⟨z, rfl, hz, q⟩ := h
  obtain ⟨u, rfl, t, rfl⟩ := vals1 r
  have hl : z.length ≤ sizeLine := Nat.le_trans hz (by decide)
  refine PySem.call_list_str (I.ok.hd hc) (sOf z) t (hn := by show (sOf z).length ≤ sizeLine; rw [sOf_len]; exact hl) fun h' tk acc' c' hk hS' hacc => ?_
  have r' : Vals (z.map fun c => V.str (sOf [c])) acc'.toList := vals_signs (by have := hacc.1; simpa [sOf] using this) fun j v hj => by
    obtain ⟨c, u, e, rfl⟩ := hacc.2 j v (by simpa using hj)
    exact ⟨c, u, by simpa [sOf] using e, rfl⟩
  exact ⟨.ref s.heap.objs.size, _, I.laid (t' := tk) hk (Nat.le_refl _) (show ObjOk X.prog X.w _ h' _ (.lst _) from ⟨by rw [List.length_map]; exact hl, acc'.toList, c', r', by simpa using hS'⟩), rfl, q _ (I.hok.fresh (Nat.le_refl _))⟩
end
/-! ### heaps -/
theorem same_new {H : Hp} {p : Addr} {o : HO} (h : H p = none) : Same H (upd H p o) := fun b x e => by
  rw [upd_ne (ne_of_none e h)]
  exact e
/-- what is new may change -/
theorem Same.mut {H H' : Hp} {p : Addr} {o : HO} (e : Same H H') (h : H p = none) : Same H (upd H' p o) := fun b x hb => by
  rw [upd_ne (ne_of_none hb h)]
  exact e b x hb
/-- a bag of the laws' draws -/
def BagAt (H : Hp) (b : Addr) : Prop := ∃ g s : Int, H b = some (.lst [.int g, .int s]) ∧ 0 ≤ g ∧ 0 ≤ s ∧ s < 1000000000000
/-- the bag has turned, what else stood stands -/
def Bx (b : Addr) (H H' : Hp) : Prop := BagAt H' b ∧ ∀ a o, a ≠ b → H a = some o → H' a = some o
theorem Bx.refl {b : Addr} {H : Hp} (h : BagAt H b) : Bx b H H := ⟨h, fun _ _ _ e => e⟩
theorem Bx.trans {b : Addr} {H H1 H2 : Hp} (x : Bx b H H1) (y : Bx b H1 H2) : Bx b H H2 := ⟨y.1, fun a o n e => y.2 a o n (x.2 a o n e)⟩
theorem Bx.drawn {b : Addr} {H : Hp} {g s : Int} (g0 : 0 ≤ g) (s0 : 0 ≤ s) (s1 : s < 1000000000000) : Bx b H (upd H b (.lst [.int g, .int s])) := ⟨⟨g, s, upd_same, g0, s0, s1⟩, fun a o n e => by
  rw [upd_ne n]
  exact e⟩
theorem Bx.same {b : Addr} {H H1 H2 : Hp} (x : Bx b H H1) (y : Same H1 H2) : Bx b H H2 := by
  obtain ⟨⟨g, s, h, r⟩, k⟩ := x
  exact ⟨⟨g, s, y _ _ h, r⟩, fun a o n e => y _ _ (k a o n e)⟩
/-- from before the bag was made -/
theorem Bx.back {b : Addr} {H0 H H' : Hp} (x : Bx b H H') (y : Same H0 H) (n : H0 b = none) : Same H0 H' := fun a o e => x.2 a o (ne_of_none e n) (y a o e)
theorem Bx.mut {b p : Addr} {H H' : Hp} {o : HO} (x : Bx b H H') (hp : H p = none) (n : p ≠ b) : Bx b H (upd H' p o) := by
  obtain ⟨⟨g, s, h, r⟩, k⟩ := x
  refine ⟨⟨g, s, by rw [upd_ne n.symm]; exact h, r⟩, fun a u m e => ?_⟩
  rw [upd_ne (ne_of_none e hp)]
  exact k a u m e
theorem Bx.free {b p : Addr} {H H' : Hp} (x : Bx b H H') (h : H' p = none) : H p = none := by
  have n : p ≠ b := by
    obtain ⟨g, s, e, _⟩ := x.1
    exact (ne_of_none e h).symm
  cases q : H p with
  | none => rfl
  | some o =>
    rw [x.2 p o n q] at h
    cases h
theorem BagAt.new {H : Hp} {p : Addr} {g s : Int} (g0 : 0 ≤ g) (s0 : 0 ≤ s) (s1 : s < 1000000000000) : BagAt (upd H p (.lst [.int g, .int s])) p := ⟨g, s, upd_same, g0, s0, s1⟩
theorem BagAt.ne {H : Hp} {b p : Addr} (h : BagAt H b) (n : H p = none) : p ≠ b := by
  obtain ⟨g, s, e, _⟩ := h
  exact (ne_of_none e n).symm
/-- a list's own address is no bag's where its items are texts -/
def cells (l : List Nat) : List V := l.map fun c => V.str (sOf [c])
theorem cells_len (l : List Nat) : (cells l).length = l.length := List.length_map ..
theorem cells_set (l : List Nat) (j c : Nat) : (cells l).set j (.str (sOf [c])) = cells (l.set j c) := by
  unfold cells
  rw [List.map_set]
theorem cells_app (l : List Nat) (c : Nat) : cells l ++ [.str (sOf [c])] = cells (l ++ [c]) := by
  unfold cells
  rw [List.map_append]
  rfl
/-- the cells of rows -/
def Cell (c : Nat) : Prop := c = 46 ∨ c = 35
def Row (l : List Nat) : Prop := ∀ c ∈ l, Cell c
theorem Row.set {l : List Nat} {j c : Nat} (h : Row l) (hc : Cell c) : Row (l.set j c) := fun x hx => by
  rcases List.mem_or_eq_of_mem_set hx with e | e
  · exact h x e
  · rw [e]
    exact hc
theorem Row.app {l : List Nat} {c : Nat} (h : Row l) (hc : Cell c) : Row (l ++ [c]) := fun x hx => by
  rcases List.mem_append.mp hx with e | e
  · exact h x e
  · rw [List.mem_singleton.mp e]
    exact hc
theorem Row.rep {n c : Nat} (hc : Cell c) : Row (List.replicate n c) := fun x hx => by
  rw [(List.mem_replicate.mp hx).2]
  exact hc
theorem Row.nil : Row [] := fun _ h => nomatch h
def cellN (i : Int) : Nat := if i = 0 then 46 else 35
theorem cellN_cell (i : Int) : Cell (cellN i) := by
  unfold cellN
  split
  · exact .inl rfl
  · exact .inr rfl
theorem cell_at {i : Int} (h0 : 0 ≤ i) (h1 : i < 2) : atI (Str.ofString ".#").cps.toList i = some (cellN i) := by
  have : i = 0 ∨ i = 1 := by omega
  rcases this with rfl | rfl <;> rfl
theorem two_len : (Str.ofString ".#").length ≤ sizeLine := by decide
theorem sz {n : Nat} (h : n ≤ 100000) : n ≤ sizeLine := Nat.le_trans h (by decide)
theorem szl {n : Nat} (h : n < 100000) : n < sizeLine := Nat.lt_of_lt_of_le h (by decide)
theorem sIx_nat' (n d a : Nat) : HT.sIx n d (some (a : Int)) = min a n := HT.sIx_nat n d a
theorem cutS_nat (l : List Nat) (a b : Nat) (ha : a ≤ l.length) (hb : b ≤ l.length) : cutS (sOf l) (some (a : Int)) (some (b : Int)) = sOf ((l.drop a).take (b - a)) := by
  unfold cutS
  rw [HT.sIx_nat, HT.sIx_nat, sOf_len, sOf_list, Nat.min_eq_left ha, Nat.min_eq_left hb]
  rfl
theorem take_more {α : Type} (l : List α) (i : Nat) (x : α) (h : l[i]? = some x) : l.take (i + 1) = l.take i ++ [x] := by
  rw [List.take_add_one, h]
  rfl
theorem range_more {α : Type} (f : Nat → α) (i : Nat) : (List.range (i + 1)).map f = (List.range i).map f ++ [f i] := by
  rw [List.range_succ, List.map_append]
  rfl
theorem join_cells : ∀ l : List Nat, Txt.join (Str.ofString "") (l.map fun c => sOf [c]) = sOf l := by
  intro l
  show Builtin.Str.glued (Str.ofString "") (l.map fun c => sOf [c]) = sOf l
  rw [StrLaws.glued_eq_join]
  induction l with
  | nil => rfl
  | cons c r ih =>
    cases r with
    | nil => rfl
    | cons d r =>
      show sOf [c] ++ Str.ofString "" ++ Str.join (Str.ofString "") (List.map (fun c => sOf [c]) (d :: r)) = sOf (c :: d :: r)
      rw [ih, show (Str.ofString "") = sOf [] from rfl, sOf_app, sOf_app]
      rfl
theorem cells_strs (l : List Nat) : cells l = (l.map fun c => sOf [c]).map V.str := by
  rw [List.map_map]
  rfl
theorem ones_sum (l : List Nat) : ((l.map fun c => sOf [c]).map (·.length)).sum = l.length := by
  induction l with
  | nil => rfl
  | cons c r ih =>
    rw [List.map_cons, List.map_cons, List.sum_cons, ih, sOf_len, List.length_cons]
    show 1 + r.length = r.length + 1
    omega
theorem join_size {l : List Nat} (h : l.length ≤ 100000) : ((l.map fun c => sOf [c]).map (·.length)).sum + (l.map fun c => sOf [c]).length * (Str.ofString "").length ≤ 16777216 := by
  rw [ones_sum, show (Str.ofString "").length = 0 from rfl]
  omega
theorem rep_one (n : Nat) (c : Nat) : (List.replicate n [V.str (sOf [c])]).flatten = cells (List.replicate n c) := by
  induction n with
  | zero => rfl
  | succ k ih =>
    rw [List.replicate_succ, List.flatten_cons, ih, List.replicate_succ]
    rfl

/-! ### lists and tuples of texts -/
def sV (l : List Nat) : V := .str (sOf l)
def sD (l : List Nat) : PyData := .str (sOf l)
theorem dp_rows {K : PySem.W.Frag} {H : Hp} : ∀ rows : List (List Nat), DpAll K H (rows.map sV) (rows.map sD)
  | [] => .nil
  | r :: rs => .cons (.str _) (dp_rows rs)
def Codes (l : List Nat) : Prop := ∀ c ∈ l, c < 128
theorem strOk_of {l : List Nat} (h : Codes l) : PyData.strOk (sOf l) = true := by
  unfold PyData.strOk sOf
  rw [Array.all_eq_true']
  intro c hc
  have h2 := h c (by simpa using hc)
  exact decide_eq_true (by omega)
theorem lay_rows : ∀ {rows : List (List Nat)}, (∀ r ∈ rows, Codes r) → PyData.canLayAll0 (rows.map sD) = true
  | [], _ => by simp [PyData.canLayAll0]
  | r :: rs, h => by
    have h1 : PyData.canLay0 (sD r) = true := by
      show PyData.canLay0 (.str (sOf r)) = true
      simp only [PyData.canLay0]
      exact strOk_of (h r (List.mem_cons_self ..))
    have h2 := lay_rows (rows := rs) fun x hx => h x (List.mem_cons_of_mem _ hx)
    simp only [List.map_cons, PyData.canLayAll0, h1, h2, Bool.and_true]
theorem depth_rows : ∀ rows : List (List Nat), PyData.depthAll (rows.map sD) = 0
  | [] => by simp [PyData.depthAll]
  | r :: rs => by
    have h := depth_rows rs
    simp only [List.map_cons, PyData.depthAll, h, sD, PyData.depth]
    rfl
theorem shaped_tup {rows : List (List Nat)} (h : ∀ r ∈ rows, Codes r) : SeqAt.shaped (.tuple (rows.map sD)) = true := by
  show (PyData.canLay0 (.tuple (rows.map sD)) && decide (PyData.depth (.tuple (rows.map sD)) ≤ 64)) = true
  rw [Bool.and_eq_true]
  refine ⟨by simp only [PyData.canLay0]; exact lay_rows h, decide_eq_true ?_⟩
  simp only [PyData.depth, depth_rows]
  omega
theorem shaped_lst {rows : List (List Nat)} (h : ∀ r ∈ rows, Codes r) : SeqAt.shaped (.list (rows.map sD)) = true := by
  show (PyData.canLay0 (.list (rows.map sD)) && decide (PyData.depth (.list (rows.map sD)) ≤ 64)) = true
  rw [Bool.and_eq_true]
  refine ⟨by simp only [PyData.canLay0]; exact lay_rows h, decide_eq_true ?_⟩
  simp only [PyData.depth, depth_rows]
  omega
theorem eqv_tup {rows : List (List Nat)} (h : ∀ r ∈ rows, Codes r) : PyData.eqv (.tuple (rows.map sD)) (.tuple (rows.map sD)) = true := SeqAt.eqv_refl _ (by simp only [PyData.canLay0]; exact lay_rows h)
theorem eqv_lst {rows : List (List Nat)} (h : ∀ r ∈ rows, Codes r) : PyData.eqv (.list (rows.map sD)) (.list (rows.map sD)) = true := SeqAt.eqv_refl _ (by simp only [PyData.canLay0]; exact lay_rows h)
theorem Row.codes {l : List Nat} (h : Row l) : Codes l := fun c hc => by
  rcases h c hc with e | e <;> rw [e] <;> decide
theorem same_t {K : PySem.W.Frag} {H H' : Hp} {a : Addr} {xs : List V} (e : Same H H') (h : SqT K H a xs) : SqT K H' a xs := Evl.ex_t e h
theorem cut1 (xs : List V) : cutV xs (some 1) none = xs.drop 1 := by
  unfold cutV
  rw [show HT.sIx xs.length 0 (some 1) = min 1 xs.length from HT.sIx_nat xs.length 0 1, HT.sIx_none]
  cases xs with
  | nil => rfl
  | cons x r =>
    rw [show min 1 (x :: r).length = 1 by
      rw [List.length_cons]
      omega]
    show (List.take ((x :: r).length - 1) r) = r
    rw [List.length_cons, Nat.add_sub_cancel]
    exact List.take_length

/-! ### tuples of any kind, texts times an int -/
section
variable {X : Cx}
theorem cutV_whole {xs : List V} {lo hi : Option Int} (h : HT.sIx xs.length 0 lo = 0 ∧ HT.sIx xs.length xs.length hi = xs.length) : cutV xs lo hi = xs := by
  unfold cutV
  rw [h.1, h.2]
  show (xs.drop 0).take (xs.length - 0) = xs
  rw [List.drop_zero, Nat.sub_zero, List.take_length]
theorem sl_tupW : SlR X (fun x lo hi H Q => ∃ a xs, x = .ref a ∧ H a = some (.tup xs) ∧ ∀ q H', Same H H' → H' q = some (.tup (cutV xs lo hi)) → Q (.ref q) H') := by
  intro pins s σ H x v vl vu lo hi sl Q I rx hs pl pu h
  obtain ⟨a, xs, rfl, hx, q⟩ := h
  refine sl_tupA pins s σ H _ v vl vu lo hi sl Q I rx hs pl pu ⟨a, xs, rfl, .inl (.inl hx), fun e => ?_, fun e p hp => ?_⟩
  · exact q a H (Same.refl H) (by rw [cutV_whole e]; exact hx)
  · exact q p _ (same_new hp) upd_same
theorem op_catW : OpR X (binaryOp .Add) (fun x y H Q => ∃ a b xs ys, x = .ref a ∧ y = .ref b ∧ H a = some (.tup xs) ∧ H b = some (.tup ys) ∧ xs.length + ys.length ≤ 100000 ∧ ∀ q H', Same H H' → H' q = some (.tup (xs ++ ys)) → Q (.ref q) H') := by
  intro pins s σ H x y v u Q I rx ry h
  obtain ⟨a, b, xs, ys, rfl, rfl, ha, hb, hz, q⟩ := h
  refine op_catA pins s σ H _ _ v u Q I rx ry ⟨a, b, xs, ys, rfl, rfl, .inl (.inl ha), .inl (.inl hb), sz hz, fun e => ?_, fun _ e => ?_, fun _ _ p hp => ?_⟩
  · subst e
    exact q b H (Same.refl H) hb
  · subst e
    exact q a H (Same.refl H) (by rw [List.append_nil]; exact ha)
  · exact q p _ (same_new hp) upd_same
theorem op_mul_txt : OpR X (binaryOp .Mult) (fun x y H Q => ∃ (z : Str) (n : Int), x = .str z ∧ y = .int n ∧ (0 ≤ n ∧ n ≤ 1000 ∧ z.length ≤ 1000) ∧ ∀ m : Str, (m.length : Int) = (z.length : Int) * n → Q (.str m) H) := by
  intro pins s σ H x y v u Q I rx ry h
  obtain ⟨z, n, rfl, rfl, hz, q⟩ := h
  obtain ⟨t, rfl⟩ := rx
  obtain ⟨t', rfl⟩ := ry
  refine SB.mul (mulOk_of 1000 1000 hz.2.2 (by omega) (by omega) (by decide) (by decide)) fun t' k => ?_
  have e := len_mul z n
  rw [if_neg (by simp; omega)] at e
  exact ⟨.str (Txt.mul z n), H, I.tok _, ⟨_, rfl⟩, q _ e⟩
end
theorem cutV_mem {xs : List V} {lo hi : Option Int} {v : V} (h : v ∈ cutV xs lo hi) : v ∈ xs := by
  unfold cutV at h
  exact List.mem_of_mem_drop (List.mem_of_mem_take h)
theorem cutV_len (xs : List V) (lo hi : Option Int) : (cutV xs lo hi).length ≤ xs.length := by
  unfold cutV
  rw [List.length_take, List.length_drop]
  omega
/-! ### things of the laws -/
def Flat (v : V) : Prop := v = .non ∨ (∃ x, v = .bl x) ∨ (∃ i, v = .int i) ∨ ∃ z : Str, v = .str z ∧ z.length ≤ 100000
def It (b : Addr) (H : Hp) (v : V) : Prop := Flat v ∨ (∃ a xs, v = .ref a ∧ a ≠ b ∧ H a = some (.lst xs)) ∨ ∃ a xs, v = .ref a ∧ H a = some (.tup xs)
def Tg (b : Addr) (H : Hp) (v : V) : Prop := Flat v ∨ (∃ a xs, v = .ref a ∧ a ≠ b ∧ H a = some (.lst xs)) ∨ ∃ a xs, v = .ref a ∧ H a = some (.tup xs) ∧ xs.length ≤ 1000 ∧ ∀ u ∈ xs, It b H u
theorem BagAt.tup {H : Hp} {b a : Addr} {xs : List V} (h : BagAt H b) (e : H a = some (.tup xs)) : a ≠ b := fun z => by
  obtain ⟨g, s, e2, _⟩ := h
  rw [z, e2] at e
  cases e
theorem It.bx {b : Addr} {H H' : Hp} {v : V} (h : It b H v) (hb : BagAt H b) (x : Bx b H H') : It b H' v := by
  rcases h with h | ⟨a, xs, rfl, n, e⟩ | ⟨a, xs, rfl, e⟩
  · exact .inl h
  · exact .inr (.inl ⟨a, xs, rfl, n, x.2 _ _ n e⟩)
  · exact .inr (.inr ⟨a, xs, rfl, x.2 _ _ (hb.tup e) e⟩)
theorem Tg.bx {b : Addr} {H H' : Hp} {v : V} (h : Tg b H v) (hb : BagAt H b) (x : Bx b H H') : Tg b H' v := by
  rcases h with h | ⟨a, xs, rfl, n, e⟩ | ⟨a, xs, rfl, e, l, k⟩
  · exact .inl h
  · exact .inr (.inl ⟨a, xs, rfl, n, x.2 _ _ n e⟩)
  · exact .inr (.inr ⟨a, xs, rfl, x.2 _ _ (hb.tup e) e, l, fun u hu => (k u hu).bx hb x⟩)
theorem Tg.it {b : Addr} {H : Hp} {v : V} (h : Tg b H v) : It b H v := by
  rcases h with h | h | ⟨a, xs, rfl, e, l, k⟩
  · exact .inl h
  · exact .inr (.inl h)
  · exact .inr (.inr ⟨a, xs, rfl, e⟩)
theorem Tg.str {b : Addr} {H : Hp} {z : Str} (h : z.length ≤ 100000) : Tg b H (.str z) := .inl (.inr (.inr (.inr ⟨z, rfl, h⟩)))
theorem It.str {b : Addr} {H : Hp} {z : Str} (h : z.length ≤ 100000) : It b H (.str z) := .inl (.inr (.inr (.inr ⟨z, rfl, h⟩)))
theorem str_sOf (z : Str) : z = sOf z.cps.toList := of_list rfl

/-! ### rules whose new objects stand in an opaque heap -/
section
variable {X : Cx} {es : List Expr} {t : TA} {pos : Pos}
theorem pe_weaken {e : Expr} {te tf : TE} (h : PE X e te) (k : ∀ σ H Q, tf σ H Q → te σ H Q) : PE X e tf := ⟨fun pins s σ H Q I q => h.run pins s σ H Q I (k σ H Q q)⟩
def tLstW (t : TA) : TE := fun σ H Q => t σ H fun xs H1 => xs.length ≤ 100000 ∧ ∀ p H2, H1 p = none → Same H1 H2 → H2 p = some (.lst xs) → Q (.ref p) H2
def tTupW (t : TA) : TE := fun σ H Q => t σ H fun xs H1 => xs.length ≤ 100000 ∧ ∀ p H2, H1 p = none → Same H1 H2 → H2 p = some (.tup xs) → Q (.ref p) H2
end
def rNewW (H : Hp) (o : HO) (Q : VK) : Prop := ∀ p H2, H p = none → Same H H2 → H2 p = some o → Q (.ref p) H2
theorem rNewW.go {H : Hp} {o : HO} {Q : VK} (q : rNewW H o Q) : ∀ p, H p = none → Q (.ref p) (upd H p o) := fun p hp => q p _ hp (same_new hp) upd_same
section
variable {X : Cx}
theorem op_catLW : OpR X (binaryOp .Add) (fun x y H Q => ∃ a b xs ys, x = .ref a ∧ y = .ref b ∧ H a = some (.lst xs) ∧ H b = some (.lst ys) ∧ xs.length + ys.length ≤ 100000 ∧ rNewW H (.lst (xs ++ ys)) Q) := by
  intro pins s σ H x y v u Q I rx ry h
  obtain ⟨a, b, xs, ys, rfl, rfl, ha, hb, hz, q⟩ := h
  exact op_cat pins s σ H _ _ v u Q I rx ry ⟨a, b, xs, ys, rfl, rfl, ha, hb, sz hz, q.go⟩
theorem op_repTW : OpR X (binaryOp .Mult) (fun x y H Q => ∃ l k xs, x = .ref l ∧ y = .int k ∧ H l = some (.tup xs) ∧ xs ≠ [] ∧ 2 ≤ k ∧ k ≤ 1000 ∧ xs.length ≤ 1000 ∧ rNewW H (.tup (List.replicate k.toNat xs).flatten) Q) := by
  intro pins s σ H x y v u Q I rx ry h
  obtain ⟨l, k, xs, rfl, rfl, hl, h1, h2, h3, h4, q⟩ := h
  exact op_repT pins s σ H _ _ v u Q I rx ry ⟨l, k, xs, rfl, rfl, .inl (.inl hl), h1, h2, h3, h4, q.go⟩
theorem call_list_ofW : CallR X (.type "list") (fun xs H Q => ∃ p ys, xs = [.ref p] ∧ (H p = some (.lst ys) ∨ H p = some (.tup ys)) ∧ rNewW H (.lst ys) Q) := by
  intro pins s σ H xs us Q I r h
  obtain ⟨p, ys, rfl, hp, q⟩ := h
  exact call_list_of pins s σ H _ us Q I r ⟨p, ys, rfl, hp.elim (fun h => .inl (SqL.of h)) (fun h => .inr (.inl (.inl h))), q.go⟩
theorem call_list_strW (hc : X.calm = true) : CallR X (.type "list") (fun xs H Q => ∃ z : Str, xs = [.str z] ∧ z.length ≤ 100000 ∧ rNewW H (.lst (cells z.cps.toList)) Q) := by
  intro pins s σ H xs us Q I r h
  obtain ⟨z, rfl, hz, q⟩ := h
  refine call_list_str hc pins s σ H _ us Q I r ⟨z.cps.toList, by rw [← str_sOf], ?_, q.go⟩
  rw [Array.length_toList]
  exact hz
end
section
variable {X : Cx} {es : List Expr} {t : TA} {pos : Pos}
theorem pe_tupW {x1} (h : PA X es t) : PE X (.Tuple es x1 pos) (tTupW t) := by
  refine ⟨fun pins s σ H Q I hq => ?_⟩
  refine wpAny_Tuple_spliced (thn (h.run pos pins s σ H _ I hq) fun us s1 ⟨xs, H1, I1, r, z, q⟩ => ⟨by rw [← r.length]; exact sz z, ?_⟩)
  have hf : H1 s1.heap.objs.size = none := I1.hok.fresh (Nat.le_refl _)
  refine ⟨.ref s1.heap.objs.size, upd H1 s1.heap.objs.size (.tup xs), I1.laid (t' := s1.toks) (fun b u e => Heap.get?_push_of_some _ e) (Nat.le_refl _) ?_, rfl, q _ _ hf (same_new hf) upd_same⟩
  exact ⟨sz z, us, r, ⟨_, Heap.get?_push_size _ rfl, rfl, _, rfl⟩⟩
theorem pe_lstW (h : PA X es t) : PE X (.List es pos) (tLstW t) := by
  refine ⟨fun pins s σ H Q I hq => ?_⟩
  refine wpAny_List_spliced (thn (h.run pos pins s σ H _ I hq) fun us s1 ⟨xs, H1, I1, r, z, q⟩ => ⟨by rw [← r.length]; exact sz z, ?_⟩)
  have hf : H1 s1.heap.objs.size = none := I1.hok.fresh (Nat.le_refl _)
  refine ⟨.ref s1.heap.objs.size, upd H1 s1.heap.objs.size (.lst xs), I1.laid (t' := s1.toks) (fun b u e => Heap.get?_push_of_some _ e) (Nat.le_refl _) ?_, rfl, q _ _ hf (same_new hf) upd_same⟩
  exact ⟨sz z, us, 0, r, Heap.get?_push_size _ rfl⟩
end
end Fp

set_option Elab.async false
set_option linter.all false
set_option maxRecDepth 100000
set_option maxHeartbeats 4000000
/-! Texts of bits: slices, numbers written by twos, spoils. -/
namespace Fp
open PySem L2 PyProof.Rows
theorem cutS_upto (l : List Nat) (b : Nat) : cutS (sOf l) none (some (b : Int)) = sOf (l.take b) := by
  unfold cutS
  rw [HT.sIx_nat, sOf_len, sOf_list, HT.sIx_none]
  show sOf ((l.drop 0).take (min b l.length - 0)) = _
  rw [List.drop_zero, Nat.sub_zero]
  congr 1
  by_cases h : b ≤ l.length
  · rw [Nat.min_eq_left h]
  · rw [Nat.min_eq_right (by omega), List.take_length, List.take_of_length_le (by omega)]
theorem cutS_from (l : List Nat) (a : Nat) : cutS (sOf l) (some (a : Int)) none = sOf (l.drop a) := by
  unfold cutS
  rw [HT.sIx_nat, sOf_len, sOf_list, HT.sIx_none]
  congr 1
  by_cases h : a ≤ l.length
  · rw [Nat.min_eq_left h]
    have q : (l.drop a).length ≤ l.length - a := by
      rw [List.length_drop]
      exact Nat.le_refl _
    exact congrArg _ (List.take_of_length_le q)
  · rw [Nat.min_eq_right (by omega), Nat.sub_self, List.take_zero, List.drop_eq_nil_of_le (by omega)]
/-! ### known tests -/
theorem iteD1 {p A B : Prop} [Decidable p] (h : p) (a : A) : if decide p = true then A else B := by
  rw [decide_eq_true h]
  exact iteT a
theorem iteD0 {p A B : Prop} [Decidable p] (h : ¬ p) (b : B) : if decide p = true then A else B := by
  rw [decide_eq_false h]
  exact iteF b
theorem iteN0 {p A B : Prop} [Decidable p] (h : p) (b : B) : if (!decide p) = true then A else B := by
  rw [decide_eq_true h]
  exact iteF b
theorem iteN1 {p A B : Prop} [Decidable p] (h : ¬ p) (a : A) : if (!decide p) = true then A else B := by
  rw [decide_eq_false h]
  exact iteT a
theorem vint {i j : Int} : (V.int i = V.int j) ↔ i = j := ⟨fun h => V.int.inj h, fun h => by rw [h]⟩
theorem vstr {l m : List Nat} : (V.str (sOf l) = V.str (sOf m)) ↔ l = m := ⟨fun h => sOf_inj (V.str.inj h), fun h => by rw [h]⟩
theorem vstr1 {c d : Nat} : (V.str (sOf [c]) = V.str (sOf [d])) ↔ c = d := vstr.trans ⟨fun h => by simpa using h, fun h => by rw [h]⟩
def bitN (i : Int) : Nat := if i = 0 then 48 else 49
theorem bitN_bit (i : Int) : bitN i = 48 ∨ bitN i = 49 := by
  unfold bitN
  split
  · exact .inl rfl
  · exact .inr rfl
theorem bit_at {i : Int} (h0 : 0 ≤ i) (h1 : i < 2) : atI (Str.ofString "01").cps.toList i = some (bitN i) := by
  have : i = 0 ∨ i = 1 := by omega
  rcases this with rfl | rfl <;> rfl
theorem two_len' : (Str.ofString "01").length ≤ sizeLine := by decide
theorem sOf_at {l : List Nat} {i c : Nat} (h : l[i]? = some c) : atI (sOf l).cps.toList (i : Int) = some c := by
  rw [sOf_list]
  exact atI_nat h
--PURE
/-! ### bits -/
def Bts (l : List Nat) : Prop := ∀ c ∈ l, c = 48 ∨ c = 49
theorem Bts.app {l m : List Nat} (h : Bts l) (k : Bts m) : Bts (l ++ m) := fun c hc => by
  rcases List.mem_append.mp hc with e | e
  · exact h c e
  · exact k c e
theorem Bts.nil : Bts [] := fun _ h => nomatch h
theorem Bts.take {l : List Nat} (h : Bts l) (n : Nat) : Bts (l.take n) := fun c hc => h c (List.mem_of_mem_take hc)
theorem Bts.drop {l : List Nat} (h : Bts l) (n : Nat) : Bts (l.drop n) := fun c hc => h c (List.mem_of_mem_drop hc)
theorem Bts.one {c : Nat} (h : c = 48 ∨ c = 49) : Bts [c] := fun x hx => by
  rw [List.mem_singleton.mp hx]
  exact h
theorem Bts.rep {n c : Nat} (hc : c = 48 ∨ c = 49) : Bts (List.replicate n c) := fun x hx => by
  rw [(List.mem_replicate.mp hx).2]
  exact hc
theorem Bts.at {l : List Nat} (h : Bts l) {i c : Nat} (e : l[i]? = some c) : c = 48 ∨ c = 49 := h c (List.mem_of_getElem? e)
/-- a number by twos, m signs -/
def wrB (n m : Nat) : List Nat := (List.range m).map fun j => 48 + n / 2 ^ (m - 1 - j) % 2
theorem wrB_len (n m : Nat) : (wrB n m).length = m := by
  unfold wrB
  rw [List.length_map, List.length_range]
theorem wrB_bts (n m : Nat) : Bts (wrB n m) := fun c hc => by
  unfold wrB at hc
  obtain ⟨j, _, rfl⟩ := List.mem_map.mp hc
  omega
/-! ### spoils -/
inductive Spl where
  | turn (n : Nat)
  | lose (n : Nat)
  | put (n b : Nat)
def flipB (c : Nat) : Nat := if c = 49 then 48 else 49
def once (l : List Nat) : Spl → List Nat
  | .put n b => if n ≤ l.length then l.take n ++ b :: l.drop n else l
  | .turn n => if n < l.length then l.take n ++ flipB ((l[n]?).getD 0) :: l.drop (n + 1) else l
  | .lose n => if n < l.length then l.take n ++ l.drop (n + 1) else l
def spoilL (l : List Nat) (sps : List Spl) : List Nat := sps.foldl once l
def plc : Spl → Nat
  | .put n _ => n
  | .turn n => n
  | .lose n => n
/-- what the sign x at the place i becomes -/
def stepA (sp : Spl) (i : Nat) : List Nat := match sp with
  | .put n b => if i = n then [b] else []
  | _ => []
def stepB (sp : Spl) (i x : Nat) : List Nat := match sp with
  | .put _ _ => [x]
  | .turn n => if i = n then [flipB x] else [x]
  | .lose n => if i = n then [] else [x]
/-- place by place -/
def walkS (sp : Spl) : List Nat → Nat → List Nat
  | [], i => stepA sp i
  | x :: r, i => stepA sp i ++ stepB sp i x ++ walkS sp r (i + 1)
theorem walk_past (sp : Spl) : ∀ (l : List Nat) (i : Nat), plc sp < i → walkS sp l i = l
  | [], i, h => by
    cases sp with
    | put n b => show (if i = n then [b] else []) = []; rw [if_neg (by show ¬ i = n; have : n < i := h; omega)]
    | turn n => rfl
    | lose n => rfl
  | x :: r, i, h => by
    have ih := walk_past sp r (i + 1) (by omega)
    unfold walkS
    rw [ih]
    cases sp with
    | put n b =>
      have : n < i := h
      show (if i = n then [b] else []) ++ [x] ++ r = x :: r
      rw [if_neg (by omega)]
      rfl
    | turn n =>
      have : n < i := h
      show [] ++ (if i = n then [flipB x] else [x]) ++ r = x :: r
      rw [if_neg (by omega)]
      rfl
    | lose n =>
      have : n < i := h
      show [] ++ (if i = n then [] else [x]) ++ r = x :: r
      rw [if_neg (by omega)]
      rfl
def shift (sp : Spl) (i : Nat) : Spl := match sp with
  | .put n b => .put (n - i) b
  | .turn n => .turn (n - i)
  | .lose n => .lose (n - i)
theorem walk_once (sp : Spl) : ∀ (l : List Nat) (i : Nat), i ≤ plc sp → walkS sp l i = once l (shift sp i)
  | [], i, h => by
    cases sp with
    | put n b =>
      have : i ≤ n := h
      show (if i = n then [b] else []) = if n - i ≤ 0 then [].take (n - i) ++ b :: [].drop (n - i) else []
      by_cases e : i = n
      · rw [if_pos e, if_pos (by omega)]
        simp
      · rw [if_neg e, if_neg (by omega)]
    | turn n => rfl
    | lose n => rfl
  | x :: r, i, h => by
    unfold walkS
    by_cases e : i = plc sp
    · rw [walk_past sp r (i + 1) (by omega)]
      cases sp with
      | put n b =>
        have e : i = n := e
        subst e
        show (if i = i then [b] else []) ++ [x] ++ r = if i - i ≤ (x :: r).length then (x :: r).take (i - i) ++ b :: (x :: r).drop (i - i) else x :: r
        rw [if_pos rfl, Nat.sub_self, if_pos (Nat.zero_le _)]
        rfl
      | turn n =>
        have e : i = n := e
        subst e
        show [] ++ (if i = i then [flipB x] else [x]) ++ r = if i - i < (x :: r).length then (x :: r).take (i - i) ++ flipB (((x :: r)[i - i]?).getD 0) :: (x :: r).drop (i - i + 1) else x :: r
        rw [if_pos rfl, Nat.sub_self, if_pos (by rw [List.length_cons]; exact Nat.succ_pos _)]
        rfl
      | lose n =>
        have e : i = n := e
        subst e
        show [] ++ (if i = i then [] else [x]) ++ r = if i - i < (x :: r).length then (x :: r).take (i - i) ++ (x :: r).drop (i - i + 1) else x :: r
        rw [if_pos rfl, Nat.sub_self, if_pos (by rw [List.length_cons]; exact Nat.succ_pos _)]
        rfl
    · have lt : i + 1 ≤ plc sp := by omega
      rw [walk_once sp r (i + 1) lt]
      cases sp with
      | put n b =>
        have lt : i + 1 ≤ n := lt
        obtain ⟨k, rfl⟩ : ∃ k, n = i + 1 + k := ⟨n - (i + 1), by omega⟩
        show (if i = i + 1 + k then [b] else []) ++ [x] ++ (if i + 1 + k - (i + 1) ≤ r.length then r.take (i + 1 + k - (i + 1)) ++ b :: r.drop (i + 1 + k - (i + 1)) else r) = if i + 1 + k - i ≤ (x :: r).length then (x :: r).take (i + 1 + k - i) ++ b :: (x :: r).drop (i + 1 + k - i) else x :: r
        rw [if_neg (by omega), show i + 1 + k - (i + 1) = k by omega, show i + 1 + k - i = k + 1 by omega, List.length_cons]
        by_cases q : k ≤ r.length
        · rw [if_pos q, if_pos (by omega)]
          rfl
        · rw [if_neg q, if_neg (by omega)]
          rfl
      | turn n =>
        have lt : i + 1 ≤ n := lt
        obtain ⟨k, rfl⟩ : ∃ k, n = i + 1 + k := ⟨n - (i + 1), by omega⟩
        show [] ++ (if i = i + 1 + k then [flipB x] else [x]) ++ (if i + 1 + k - (i + 1) < r.length then r.take (i + 1 + k - (i + 1)) ++ flipB ((r[i + 1 + k - (i + 1)]?).getD 0) :: r.drop (i + 1 + k - (i + 1) + 1) else r) = if i + 1 + k - i < (x :: r).length then (x :: r).take (i + 1 + k - i) ++ flipB (((x :: r)[i + 1 + k - i]?).getD 0) :: (x :: r).drop (i + 1 + k - i + 1) else x :: r
        rw [if_neg (by omega), show i + 1 + k - (i + 1) = k by omega, show i + 1 + k - i = k + 1 by omega, List.length_cons]
        by_cases q : k < r.length
        · rw [if_pos q, if_pos (by omega)]
          rfl
        · rw [if_neg q, if_neg (by omega)]
          rfl
      | lose n =>
        have lt : i + 1 ≤ n := lt
        obtain ⟨k, rfl⟩ : ∃ k, n = i + 1 + k := ⟨n - (i + 1), by omega⟩
        show [] ++ (if i = i + 1 + k then [] else [x]) ++ (if i + 1 + k - (i + 1) < r.length then r.take (i + 1 + k - (i + 1)) ++ r.drop (i + 1 + k - (i + 1) + 1) else r) = if i + 1 + k - i < (x :: r).length then (x :: r).take (i + 1 + k - i) ++ (x :: r).drop (i + 1 + k - i + 1) else x :: r
        rw [if_neg (by omega), show i + 1 + k - (i + 1) = k by omega, show i + 1 + k - i = k + 1 by omega, List.length_cons]
        by_cases q : k < r.length
        · rw [if_pos q, if_pos (by omega)]
          rfl
        · rw [if_neg q, if_neg (by omega)]
          rfl
theorem walk_is (sp : Spl) (l : List Nat) : walkS sp l 0 = once l sp := by
  rw [walk_once sp l 0 (Nat.zero_le _)]
  cases sp <;> rfl
theorem once_len (l : List Nat) (sp : Spl) : (once l sp).length ≤ l.length + 1 := by
  cases sp with
  | put n b =>
    show (if n ≤ l.length then l.take n ++ b :: l.drop n else l).length ≤ _
    split
    · rw [List.length_append, List.length_cons, List.length_take, List.length_drop]
      omega
    · omega
  | turn n =>
    show (if n < l.length then l.take n ++ flipB ((l[n]?).getD 0) :: l.drop (n + 1) else l).length ≤ _
    split
    · rw [List.length_append, List.length_cons, List.length_take, List.length_drop]
      omega
    · omega
  | lose n =>
    show (if n < l.length then l.take n ++ l.drop (n + 1) else l).length ≤ _
    split
    · rw [List.length_append, List.length_take, List.length_drop]
      omega
    · omega
def BitS : Spl → Prop
  | .put _ b => b = 48 ∨ b = 49
  | _ => True
theorem flipB_bit (c : Nat) : flipB c = 48 ∨ flipB c = 49 := by
  unfold flipB
  split
  · exact .inl rfl
  · exact .inr rfl
theorem once_bts {l : List Nat} {sp : Spl} (h : Bts l) (hs : BitS sp) : Bts (once l sp) := by
  cases sp with
  | put n b =>
    show Bts (if n ≤ l.length then l.take n ++ b :: l.drop n else l)
    split
    · exact (h.take n).app (fun c hc => by
        rcases List.mem_cons.mp hc with e | e
        · rw [e]; exact hs
        · exact h.drop n c e)
    · exact h
  | turn n =>
    show Bts (if n < l.length then l.take n ++ flipB ((l[n]?).getD 0) :: l.drop (n + 1) else l)
    split
    · exact (h.take n).app (fun c hc => by
        rcases List.mem_cons.mp hc with e | e
        · rw [e]; exact flipB_bit _
        · exact h.drop _ c e)
    · exact h
  | lose n =>
    show Bts (if n < l.length then l.take n ++ l.drop (n + 1) else l)
    split
    · exact (h.take n).app (h.drop _)
    · exact h
end Fp

set_option Elab.async false
set_option linter.all false
set_option maxRecDepth 100000
set_option maxHeartbeats 4000000
/-! The laws' bags of four numbers; texts times an int. -/
namespace Fp
open PySem L2 PyProof.Rows
def Bag4 (H : Hp) (b : Addr) : Prop := ∃ g s p k : Int, H b = some (.lst [.int g, .int s, .int p, .int k]) ∧ 0 ≤ g ∧ 0 ≤ s ∧ s < 2147483648 ∧ 0 < p ∧ p < 2147483648
def Bx4 (b : Addr) (H H' : Hp) : Prop := Bag4 H' b ∧ ∀ a o, a ≠ b → H a = some o → H' a = some o
theorem Bx4.refl {b : Addr} {H : Hp} (h : Bag4 H b) : Bx4 b H H := ⟨h, fun _ _ _ e => e⟩
theorem Bx4.trans {b : Addr} {H H1 H2 : Hp} (x : Bx4 b H H1) (y : Bx4 b H1 H2) : Bx4 b H H2 := ⟨y.1, fun a o n e => y.2 a o n (x.2 a o n e)⟩
theorem Bx4.drawn {b : Addr} {H : Hp} {g s p k : Int} (g0 : 0 ≤ g) (s0 : 0 ≤ s) (s1 : s < 2147483648) (p0 : 0 < p) (p1 : p < 2147483648) : Bx4 b H (upd H b (.lst [.int g, .int s, .int p, .int k])) := ⟨⟨g, s, p, k, upd_same, g0, s0, s1, p0, p1⟩, fun a o n e => by
  rw [upd_ne n]
  exact e⟩
theorem Bx4.same {b : Addr} {H H1 H2 : Hp} (x : Bx4 b H H1) (y : Same H1 H2) : Bx4 b H H2 := by
  obtain ⟨⟨g, s, p, k, h, r⟩, m⟩ := x
  exact ⟨⟨g, s, p, k, y _ _ h, r⟩, fun a o n e => y _ _ (m a o n e)⟩
theorem Bx4.back {b : Addr} {H0 H H' : Hp} (x : Bx4 b H H') (y : Same H0 H) (n : H0 b = none) : Same H0 H' := fun a o e => x.2 a o (ne_of_none e n) (y a o e)
theorem Bx4.mut {b p : Addr} {H H' : Hp} {o : HO} (x : Bx4 b H H') (hp : H p = none) (n : p ≠ b) : Bx4 b H (upd H' p o) := by
  obtain ⟨⟨g, s, r, k, h, c⟩, m⟩ := x
  refine ⟨⟨g, s, r, k, by rw [upd_ne n.symm]; exact h, c⟩, fun a u z e => ?_⟩
  rw [upd_ne (ne_of_none e hp)]
  exact m a u z e
theorem Bag4.ne {H : Hp} {b p : Addr} (h : Bag4 H b) (n : H p = none) : p ≠ b := by
  obtain ⟨g, s, r, k, e, _⟩ := h
  exact (ne_of_none e n).symm
theorem Bx4.free {b p : Addr} {H H' : Hp} (x : Bx4 b H H') (h : H' p = none) : H p = none := by
  have n : p ≠ b := x.1.ne h
  cases q : H p with
  | none => rfl
  | some o =>
    rw [x.2 p o n q] at h
    cases h
theorem Bag4.tup {H : Hp} {b a : Addr} {xs : List V} (h : Bag4 H b) (e : H a = some (.tup xs)) : a ≠ b := fun z => by
  obtain ⟨g, s, r, k, e2, _⟩ := h
  rw [z, e2] at e
  cases e
theorem mul_list (l : List Nat) (n : Int) (h : 0 ≤ n) : Txt.mul (sOf l) n = sOf (List.replicate n.toNat l).flatten := by
  obtain ⟨k, rfl⟩ := Int.eq_ofNat_of_zero_le h
  apply of_list
  unfold Txt.mul
  have main : ∀ (k : Nat) (acc : Array Nat), (List.foldl (· ++ ·) acc (List.replicate k (sOf l).cps)).toList = acc.toList ++ (List.replicate k l).flatten := by
    intro k
    induction k with
    | zero => intro acc; simp
    | succ k ih =>
      intro acc
      rw [List.replicate_succ, List.foldl_cons, ih, List.replicate_succ, List.flatten_cons]
      simp [sOf]
  split
  · have : k = 0 := by omega
    subst this
    rfl
  · split
    · rename_i _ e
      rw [sOf_list, Int.toNat_natCast]
      simp only [Bool.or_eq_true, beq_iff_eq] at e
      rcases e with e | e
      · have : k = 1 := by omega
        subst this
        simp
      · rw [sOf_len] at e
        have : l = [] := List.length_eq_zero_iff.mp e
        subst this
        simp
    · rw [Int.toNat_natCast]
      have := main k #[]
      simpa using this
section
variable {X : Cx}
theorem op_mulT : OpR X (binaryOp .Mult) (fun x y H Q => ∃ (l : List Nat) (n : Int), x = .str (sOf l) ∧ y = .int n ∧ (0 ≤ n ∧ n ≤ 10000 ∧ l.length ≤ 1000) ∧ Q (.str (sOf (List.replicate n.toNat l).flatten)) H) := by
  intro pins s σ H x y v u Q I rx ry h
  obtain ⟨l, n, rfl, rfl, hz, q⟩ := h
  obtain ⟨t, rfl⟩ := rx
  obtain ⟨t', rfl⟩ := ry
  refine SB.mul (mulOk_of 1000 10000 (by rw [sOf_len]; exact hz.2.2) (by omega) (by omega) (by decide) (by decide)) fun t' k => ?_
  rw [mul_list l n hz.1]
  exact ⟨.str _, H, I.tok _, ⟨_, rfl⟩, q⟩
end
theorem flat_len {l : List Nat} (n : Nat) : (List.replicate n l).flatten.length = n * l.length := by
  induction n with
  | zero => simp
  | succ k ih => rw [List.replicate_succ, List.flatten_cons, List.length_append, ih, Nat.succ_mul]; omega
theorem flat_bts {l : List Nat} (h : Bts l) (n : Nat) : Bts (List.replicate n l).flatten := fun c hc => by
  obtain ⟨m, hm, hc⟩ := List.mem_flatten.mp hc
  rw [(List.mem_replicate.mp hm).2] at hc
  exact h c hc
theorem str_bit (k : Nat) (h : k < 2) : (toString ((k : Nat) : Int) : Str) = sOf [48 + k] := by
  have : k = 0 ∨ k = 1 := by omega
  rcases this with rfl | rfl <;> decide +kernel
/-- texts joined by nothing -/
theorem join_flat : ∀ ls : List (List Nat), Txt.join (Str.ofString "") (ls.map sOf) = sOf ls.flatten := by
  intro ls
  show Builtin.Str.glued (Str.ofString "") (ls.map sOf) = sOf ls.flatten
  rw [StrLaws.glued_eq_join]
  induction ls with
  | nil => rfl
  | cons c r ih =>
    cases r with
    | nil =>
      show sOf c = sOf [c].flatten
      simp
    | cons d r =>
      show sOf c ++ Str.ofString "" ++ Str.join (Str.ofString "") (List.map sOf (d :: r)) = sOf (c :: d :: r).flatten
      rw [ih, show (Str.ofString "") = sOf [] from rfl, sOf_app, sOf_app, List.append_nil]
      rfl
theorem lens_sum (ls : List (List Nat)) : ((ls.map sOf).map (·.length)).sum = ls.flatten.length := by
  induction ls with
  | nil => rfl
  | cons c r ih =>
    rw [List.map_cons, List.map_cons, List.sum_cons, ih, sOf_len, List.flatten_cons, List.length_append]
theorem join_flat_size {ls : List (List Nat)} (h : ls.flatten.length ≤ 100000) : ((ls.map sOf).map (·.length)).sum + (ls.map sOf).length * (Str.ofString "").length ≤ 16777216 := by
  rw [lens_sum, show (Str.ofString "").length = 0 from rfl]
  omega
theorem sV_strs (ls : List (List Nat)) : ls.map sV = (ls.map sOf).map V.str := by
  rw [List.map_map]
  rfl
theorem flatten_snoc {ls : List (List Nat)} {l : List Nat} : (ls ++ [l]).flatten = ls.flatten ++ l := by simp
end Fp

set_option Elab.async false
set_option linter.all false
set_option maxRecDepth 100000
set_option maxHeartbeats 4000000
/-! Marks: where they stand, and how they are found. -/
namespace Fp
open PySem L2 PyProof.Rows
--PURE
def mkL : List Nat := [48, 48, 48, 48, 48, 48, 48, 48, 48, 48, 48, 49]
/-- a mark begins at p -/
def occ (l : List Nat) (p : Nat) : Bool := (l.drop p).take 12 == mkL
theorem occ_get {l : List Nat} {p : Nat} (h : occ l p = true) : p + 12 ≤ l.length ∧ (∀ i, i < 11 → l[p + i]? = some 48) ∧ l[p + 11]? = some 49 := by
  have e : (l.drop p).take 12 = mkL := eq_of_beq h
  have ln := congrArg List.length e
  rw [List.length_take, List.length_drop] at ln
  have ln : min 12 (l.length - p) = 12 := ln
  have at_ : ∀ i, i < 12 → l[p + i]? = mkL[i]? := fun i hi => by
    rw [← e, List.getElem?_take_of_lt hi, List.getElem?_drop]
  refine ⟨by omega, fun i hi => ?_, by rw [at_ 11 (by decide)]; rfl⟩
  rw [at_ i (by omega)]
  have : ∀ i : Nat, i < 11 → mkL[i]? = some 48 := by decide
  exact this i hi
theorem occ_of {l : List Nat} {p : Nat} (h0 : ∀ i, i < 11 → l[p + i]? = some 48) (h1 : l[p + 11]? = some 49) : occ l p = true := by
  refine beq_iff_eq.mpr ?_
  apply List.ext_getElem?
  intro i
  by_cases hi : i < 12
  · rw [List.getElem?_take_of_lt hi, List.getElem?_drop]
    by_cases z : i < 11
    · rw [h0 i z]
      have : ∀ i : Nat, i < 11 → mkL[i]? = some 48 := by decide
      rw [this i z]
    · have : i = 11 := by omega
      rw [this, h1]
      rfl
  · rw [List.getElem?_eq_none (by rw [List.length_take]; omega), List.getElem?_eq_none (by show 12 ≤ i; omega)]
/-- two marks don't share a sign -/
theorem occ_apart {l : List Nat} {p q : Nat} (h : occ l p = true) (h2 : occ l q = true) (lt : p < q) : p + 12 ≤ q := by
  by_cases z : p + 12 ≤ q
  · exact z
  · obtain ⟨_, _, a⟩ := occ_get h
    obtain ⟨_, b, _⟩ := occ_get h2
    have := b (p + 11 - q) (by omega)
    rw [show q + (p + 11 - q) = p + 11 by omega, a] at this
    cases this
def occs (l : List Nat) (s : Nat) : List Nat := (List.range s).filter (occ l)
theorem occs_none {l : List Nat} {s t : Nat} (h : s ≤ t) (hn : ∀ v, s ≤ v → v < t → occ l v = false) : occs l t = occs l s := by
  obtain ⟨k, rfl⟩ : ∃ k, t = s + k := ⟨t - s, by omega⟩
  induction k with
  | zero => rfl
  | succ k ih =>
    have h1 := ih (by omega) (fun v a b => hn v a (by omega))
    unfold occs at h1 ⊢
    rw [← Nat.add_assoc, List.range_succ, List.filter_append, h1]
    have : occ l (s + k) = false := hn _ (by omega) (by omega)
    simp [this]
theorem occs_one {l : List Nat} {s k : Nat} (h : s ≤ k) (hk : occ l k = true) (hn : ∀ v, s ≤ v → v < k → occ l v = false) : occs l (k + 12) = occs l s ++ [k] := by
  have h1 : occs l (k + 1) = occs l s ++ [k] := by
    have := occs_none h hn
    unfold occs at this ⊢
    rw [List.range_succ, List.filter_append, this]
    simp [hk]
  rw [← h1]
  refine occs_none (by omega) fun v a b => ?_
  cases z : occ l v with
  | false => rfl
  | true => exact absurd (occ_apart hk z (by omega)) (by omega)
theorem occs_end {l : List Nat} {s : Nat} (hn : ∀ v, s ≤ v → occ l v = false) (t : Nat) (h : s ≤ t) : occs l t = occs l s := occs_none h fun v a _ => hn v a
theorem occ_far {l : List Nat} {v : Nat} (h : l.length < v + 12) : occ l v = false := by
  cases z : occ l v with
  | false => rfl
  | true => exact absurd (occ_get z).1 (by omega)
/-- the ends of all marks -/
def endsL (l : List Nat) : List Nat := (occs l l.length).map (· + 12)
theorem occs_len (l : List Nat) (s : Nat) : (occs l s).length ≤ s := by
  unfold occs
  have := List.length_filter_le (occ l) (List.range s)
  rw [List.length_range] at this
  exact this
theorem occ_iff {l : List Nat} {i : Nat} : occ l i = true ↔ (l[i + 11]? = some 49 ∧ (l.drop i).take 11 = List.replicate 11 48) := by
  constructor
  · intro h
    obtain ⟨a, b, c⟩ := occ_get h
    refine ⟨c, ?_⟩
    apply List.ext_getElem?
    intro j
    by_cases hj : j < 11
    · rw [List.getElem?_take_of_lt hj, List.getElem?_drop, b j hj, List.getElem?_replicate, if_pos hj]
    · rw [List.getElem?_eq_none (by rw [List.length_take]; omega), List.getElem?_eq_none (by rw [List.length_replicate]; omega)]
  · rintro ⟨h1, h2⟩
    refine occ_of (fun j hj => ?_) h1
    have : ((l.drop i).take 11)[j]? = some 48 := by rw [h2, List.getElem?_replicate, if_pos hj]
    rw [List.getElem?_take_of_lt hj, List.getElem?_drop] at this
    exact this
--END
theorem cutS_mid (l : List Nat) (a b : Nat) (h : a ≤ b) : cutS (sOf l) (some (a : Int)) (some (b : Int)) = sOf ((l.drop a).take (b - a)) := by
  unfold cutS
  rw [HT.sIx_nat, HT.sIx_nat, sOf_len, sOf_list]
  show sOf _ = sOf _
  congr 1
  by_cases h1 : a ≤ l.length
  · rw [Nat.min_eq_left h1]
    by_cases h2 : b ≤ l.length
    · rw [Nat.min_eq_left h2]
    · have q : (l.drop a).length = l.length - a := List.length_drop ..
      rw [Nat.min_eq_right (by omega), List.take_of_length_le (by omega), List.take_of_length_le (by omega)]
  · rw [Nat.min_eq_right (by omega), Nat.min_eq_right (by omega), List.drop_eq_nil_of_le (by omega), List.drop_eq_nil_of_le (by omega), List.take_nil, List.take_nil]
theorem at_occ {l : List Nat} {i : Nat} : StrLaws.At (sOf l) (sOf mkL) (sOf l).length i ↔ occ l i = true := by
  unfold StrLaws.At
  rw [StrLaws.subAt_eq, sOf_list, sOf_list, sOf_len, sOf_len]
  constructor
  · exact fun h => h.2
  · exact fun h => ⟨(occ_get h).1, h⟩
theorem find_occ (l : List Nat) (s : Nat) : (Txt.find3 (sOf l) (sOf mkL) (s : Int) < 0 ∧ ∀ v, s ≤ v → occ l v = false) ∨ ∃ k : Nat, Txt.find3 (sOf l) (sOf mkL) (s : Int) = (k : Int) ∧ s ≤ k ∧ occ l k = true ∧ ∀ v, s ≤ v → v < k → occ l v = false := by
  have e : PySem.fromIndex (sOf l).length (s : Int) = s := by
    unfold PySem.fromIndex
    rw [if_neg (by omega)]
    omega
  have nb : ∀ {v}, ¬ StrLaws.At (sOf l) (sOf mkL) (sOf l).length v → occ l v = false := fun {v} h => by
    cases z : occ l v with
    | false => rfl
    | true => exact absurd (at_occ.mpr z) h
  unfold Txt.find3
  rw [e]
  rcases StrLaws.occ_head_from (sOf l) (sOf mkL) s 1 (Nat.le_refl _) with ⟨h0, hn⟩ | ⟨k, r, h0, hlo, hk, hn⟩
  · rw [h0]
    exact .inl ⟨by show (-1 : Int) < 0; decide, fun v hv => nb (hn v hv)⟩
  · rw [h0]
    exact .inr ⟨k, rfl, hlo, at_occ.mp hk, fun v a b => nb (hn v a b)⟩
end Fp

set_option Elab.async false
set_option linter.all false
set_option maxRecDepth 100000
set_option maxHeartbeats 4000000
/-! Stretches between marks. -/
namespace Fp
open PySem L2 PyProof.Rows
--PURE
def emp (st : List Nat) : Bool := decide (st = 49 :: (List.replicate (st.length - 2) 48 ++ [49]))
theorem st_split {st : List Nat} (h2 : 2 ≤ st.length) (hl : st[st.length - 1]? = some 49) : ∃ x mid, st = x :: (mid ++ [49]) := by
  cases st with
  | nil => exact absurd h2 (by decide)
  | cons x r =>
    have hr : r ≠ [] := fun e => by
      rw [e] at h2
      exact absurd h2 (by show ¬ 2 ≤ 1; decide)
    refine ⟨x, r.dropLast, ?_⟩
    congr 1
    have e := (List.dropLast_concat_getLast hr).symm
    have e2 : r.getLast hr = 49 := by
      rw [List.length_cons, Nat.add_sub_cancel] at hl
      rw [List.getLast_eq_getElem]
      have hr2 : 0 < r.length := List.length_pos_iff.mpr hr
      obtain ⟨k, hk⟩ : ∃ k, r.length = k + 1 := ⟨r.length - 1, by omega⟩
      rw [hk, List.getElem?_cons_succ] at hl
      have hlt : r.length - 1 < r.length := by omega
      have : r[r.length - 1]? = some 49 := by rw [show r.length - 1 = k by omega]; exact hl
      rw [List.getElem?_eq_getElem hlt] at this
      exact Option.some.inj this
    rw [e2] at e
    exact e
theorem emp_iff {st : List Nat} (hb : ∀ c ∈ st, c = 48 ∨ c = 49) (h2 : 2 ≤ st.length) (hl : st[st.length - 1]? = some 49) : emp st = true ↔ (st[0]? = some 49 ∧ 49 ∉ (st.drop 1).take (st.length - 2)) := by
  obtain ⟨x, mid, rfl⟩ := st_split h2 hl
  have ln : (x :: (mid ++ [49])).length - 2 = mid.length := by
    rw [List.length_cons, List.length_append]
    rfl
  have md : ((x :: (mid ++ [49])).drop 1).take ((x :: (mid ++ [49])).length - 2) = mid := by
    rw [ln]
    show (mid ++ [49]).take mid.length = mid
    rw [List.take_append_of_le_length (Nat.le_refl _), List.take_length]
  rw [md]
  unfold emp
  rw [ln, decide_eq_true_iff]
  constructor
  · intro e
    have e1 := List.cons.inj e
    refine ⟨by rw [e1.1]; rfl, fun hm => ?_⟩
    have e3 : mid = List.replicate mid.length 48 := List.append_cancel_right e1.2
    rw [e3] at hm
    have := (List.mem_replicate.mp hm).2
    cases this
  · rintro ⟨e1, e2⟩
    have hx : x = 49 := Option.some.inj e1
    subst hx
    congr 2
    refine List.eq_replicate_iff.mpr ⟨rfl, fun c hc => ?_⟩
    rcases hb c (List.mem_cons_of_mem _ (List.mem_append_left _ hc)) with z | z
    · exact z
    · exact absurd (z ▸ hc) e2
/-- two ends, one behind the other -/
def sttL (l : List Nat) : List (List Nat) := (List.range ((endsL l).length - 1)).map fun i => (l.drop ((endsL l).getD i 0)).take ((endsL l).getD (i + 1) 0 - (endsL l).getD i 0)
def E2 (F : List (List Nat)) (a : Nat) : Prop := emp (F.getD (a - 1) []) = true ∧ emp (F.getD a []) = true
def StrR (F F' : List (List Nat)) (b : Bool) : Prop := (b = true ∧ ∃ a, 1 ≤ a ∧ a < F.length ∧ E2 F a ∧ (∀ a', 1 ≤ a' → a' < a → ¬ E2 F a') ∧ F' = F.take (a - 1)) ∨ (b = false ∧ (∀ a, 1 ≤ a → a < F.length → ¬ E2 F a) ∧ F' = F)
theorem StrR.uniq {F F1 F2 : List (List Nat)} {b1 b2 : Bool} (h1 : StrR F F1 b1) (h2 : StrR F F2 b2) : F1 = F2 ∧ b1 = b2 := by
  rcases h1 with ⟨rfl, a, a1, a2, a3, a4, rfl⟩ | ⟨rfl, n1, rfl⟩
  · rcases h2 with ⟨rfl, c, c1, c2, c3, c4, rfl⟩ | ⟨rfl, n2, rfl⟩
    · have : a = c := by
        by_cases x : a < c
        · exact absurd a3 (c4 a a1 x)
        · by_cases y : c < a
          · exact absurd c3 (a4 c c1 y)
          · omega
      subst this
      exact ⟨rfl, rfl⟩
    · exact absurd a3 (n2 a a1 a2)
  · rcases h2 with ⟨rfl, c, c1, c2, c3, c4, rfl⟩ | ⟨rfl, n2, rfl⟩
    · exact absurd c3 (n1 c c1 c2)
    · exact ⟨rfl, rfl⟩
theorem occs_sorted (l : List Nat) (s : Nat) : (occs l s).Pairwise (· < ·) := by
  unfold occs
  exact List.Pairwise.filter _ List.pairwise_lt_range
theorem ends_at {l : List Nat} {i : Nat} (h : i < (endsL l).length) : ∃ p, (occs l l.length)[i]? = some p ∧ (endsL l).getD i 0 = p + 12 ∧ occ l p = true ∧ p + 12 ≤ l.length := by
  have hi : i < (occs l l.length).length := by
    unfold endsL at h
    rw [List.length_map] at h
    exact h
  have hm := List.getElem_mem hi
  have hocc : occ l (occs l l.length)[i] = true := by
    unfold occs at hm
    exact (List.mem_filter.mp hm).2
  refine ⟨(occs l l.length)[i], List.getElem?_eq_getElem hi, ?_, hocc, (occ_get hocc).1⟩
  unfold endsL
  rw [List.getD_eq_getElem?_getD, List.getElem?_map, List.getElem?_eq_getElem hi]
  rfl
/-- a stretch is long enough, and ends with a mark -/
theorem str_at {l : List Nat} {i : Nat} (h : i + 1 < (endsL l).length) : (endsL l).getD i 0 + 12 ≤ (endsL l).getD (i + 1) 0 ∧ (endsL l).getD (i + 1) 0 ≤ l.length ∧ ((sttL l).getD i []).length = (endsL l).getD (i + 1) 0 - (endsL l).getD i 0 ∧ ((sttL l).getD i [])[((sttL l).getD i []).length - 1]? = some 49 ∧ (sttL l)[i]? = some ((l.drop ((endsL l).getD i 0)).take ((endsL l).getD (i + 1) 0 - (endsL l).getD i 0)) := by
  obtain ⟨p, hp, ep, op, lp⟩ := ends_at (show i < (endsL l).length by omega)
  obtain ⟨r, hr, er, or_, lr⟩ := ends_at h
  have lt : p < r := by
    have := List.pairwise_iff_getElem.mp (occs_sorted l l.length) i (i + 1) (List.getElem?_eq_some_iff.mp hp).1 (List.getElem?_eq_some_iff.mp hr).1 (by omega)
    rw [List.getElem?_eq_getElem (List.getElem?_eq_some_iff.mp hp).1] at hp
    rw [List.getElem?_eq_getElem (List.getElem?_eq_some_iff.mp hr).1] at hr
    rw [← Option.some.inj hp, ← Option.some.inj hr]
    exact this
  have ap := occ_apart op or_ lt
  have e5 : (sttL l)[i]? = some ((l.drop ((endsL l).getD i 0)).take ((endsL l).getD (i + 1) 0 - (endsL l).getD i 0)) := by
    unfold sttL
    rw [List.getElem?_map, List.getElem?_range (by omega)]
    rfl
  have e6 : (sttL l).getD i [] = (l.drop ((endsL l).getD i 0)).take ((endsL l).getD (i + 1) 0 - (endsL l).getD i 0) := by
    rw [List.getD_eq_getElem?_getD, e5]
    rfl
  have e7 : ((sttL l).getD i []).length = (endsL l).getD (i + 1) 0 - (endsL l).getD i 0 := by
    rw [e6, List.length_take, List.length_drop]
    omega
  refine ⟨by omega, by omega, e7, ?_, e5⟩
  rw [e7, e6, List.getElem?_take_of_lt (by omega), List.getElem?_drop, ep, er]
  have := (occ_get or_).2.2
  rw [show p + 12 + (r + 12 - (p + 12) - 1) = r + 11 by omega]
  exact this
theorem sttL_len (l : List Nat) : (sttL l).length = (endsL l).length - 1 := by
  unfold sttL
  rw [List.length_map, List.length_range]
--END
theorem cutS_mid1 {l : List Nat} (h : 2 ≤ l.length) : cutS (sOf l) (some 1) (some (-1)) = sOf ((l.drop 1).take (l.length - 2)) := by
  unfold cutS
  rw [show HT.sIx (sOf l).length 0 (some 1) = min 1 (sOf l).length from HT.sIx_nat _ _ 1, sOf_len, sOf_list, Nat.min_eq_left (by omega)]
  show sOf ((l.drop 1).take ((-1 + (l.length : Int)).toNat - 1)) = _
  rw [show (-1 + (l.length : Int)).toNat - 1 = l.length - 2 by omega]
end Fp

set_option Elab.async false
set_option linter.all false
set_option maxRecDepth 100000
set_option maxHeartbeats 4000000
/-! Noughts that stand together. -/
namespace Fp
open PySem L2 PyProof.Rows
--PURE
def tz (t c : Nat) : Nat := if c = 48 then t + 1 else 0
def trail (t : Nat) (l : List Nat) : Nat := l.foldl tz t
/-- the most noughts together, with t of them ahead -/
def mxZ : Nat → List Nat → Nat
  | t, [] => t
  | t, c :: r => max t (mxZ (tz t c) r)
/-- ones with eleven noughts ahead -/
def cntM : Nat → List Nat → Nat
  | _, [] => 0
  | t, c :: r => (if c = 49 ∧ 11 ≤ t then 1 else 0) + cntM (tz t c) r
theorem tz_mono {t u : Nat} (h : t ≤ u) (c : Nat) : tz t c ≤ tz u c := by
  unfold tz
  split <;> omega
theorem trail_mono {t u : Nat} (l : List Nat) (h : t ≤ u) : trail t l ≤ trail u l := by
  induction l generalizing t u with
  | nil => exact h
  | cons c r ih => exact ih (tz_mono h c)
theorem mxZ_mono {t u : Nat} (l : List Nat) (h : t ≤ u) : mxZ t l ≤ mxZ u l := by
  induction l generalizing t u with
  | nil => exact h
  | cons c r ih =>
    have := ih (tz_mono h c)
    show max t (mxZ (tz t c) r) ≤ max u (mxZ (tz u c) r)
    omega
theorem trail_app (t : Nat) (a b : List Nat) : trail t (a ++ b) = trail (trail t a) b := by
  unfold trail
  rw [List.foldl_append]
theorem mxZ_app (t : Nat) (a b : List Nat) : mxZ t (a ++ b) = max (mxZ t a) (mxZ (trail t a) b) := by
  induction a generalizing t with
  | nil =>
    show mxZ t b = max t (mxZ t b)
    have : t ≤ mxZ t b := by
      cases b with
      | nil => exact Nat.le_refl _
      | cons c r => exact Nat.le_max_left _ _
    omega
  | cons c r ih =>
    show max t (mxZ (tz t c) (r ++ b)) = max (max t (mxZ (tz t c) r)) (mxZ (trail (tz t c) r) b)
    rw [ih]
    omega
theorem cntM_app (t : Nat) (a b : List Nat) : cntM t (a ++ b) = cntM t a + cntM (trail t a) b := by
  induction a generalizing t with
  | nil =>
    show cntM t b = 0 + cntM t b
    omega
  | cons c r ih =>
    show (if c = 49 ∧ 11 ≤ t then 1 else 0) + cntM (tz t c) (r ++ b) = (if c = 49 ∧ 11 ≤ t then 1 else 0) + cntM (tz t c) r + cntM (trail (tz t c) r) b
    rw [ih]
    omega
theorem cntM_none {t : Nat} {l : List Nat} (h : mxZ t l ≤ 10) : cntM t l = 0 := by
  induction l generalizing t with
  | nil => rfl
  | cons c r ih =>
    have h : max t (mxZ (tz t c) r) ≤ 10 := h
    show (if c = 49 ∧ 11 ≤ t then 1 else 0) + cntM (tz t c) r = 0
    rw [if_neg (fun z => by have := z.2; omega), ih (by omega)]
theorem trail_rep (t n : Nat) : trail t (List.replicate n 48) = t + n := by
  induction n generalizing t with
  | zero => rfl
  | succ n ih =>
    show trail (t + 1) (List.replicate n 48) = _
    rw [ih]
    omega
theorem cntM_rep (t n : Nat) : cntM t (List.replicate n 48) = 0 := by
  induction n generalizing t with
  | zero => rfl
  | succ n ih =>
    show (if 48 = 49 ∧ 11 ≤ t then 1 else 0) + cntM (t + 1) (List.replicate n 48) = 0
    rw [if_neg (fun z => absurd z.1 (by decide)), ih]
theorem trail_le_mxZ (t : Nat) (l : List Nat) : trail t l ≤ mxZ t l := by
  induction l generalizing t with
  | nil => exact Nat.le_refl _
  | cons c r ih => exact Nat.le_trans (ih (tz t c)) (Nat.le_max_right _ _)
/-- where ten noughts stand together -/
theorem ten_mxZ {t n i : Nat} {l : List Nat} (h : (l.drop i).take n = List.replicate n 48) : n ≤ mxZ t l := by
  have e : l = l.take i ++ (List.replicate n 48 ++ (l.drop i).drop n) := by
    rw [← h, List.take_append_drop, List.take_append_drop]
  rw [e, mxZ_app, mxZ_app]
  have h1 := trail_le_mxZ (trail t (l.take i)) (List.replicate n 48)
  rw [trail_rep] at h1
  omega
/-- parts that lead from few noughts to few -/
def Few (w : List Nat) : Prop := trail 4 w ≤ 4 ∧ mxZ 4 w ≤ 9
theorem Few.from {w : List Nat} (h : Few w) {t : Nat} (ht : t ≤ 4) : trail t w ≤ 4 ∧ mxZ t w ≤ 9 := ⟨Nat.le_trans (trail_mono w ht) h.1, Nat.le_trans (mxZ_mono w ht) h.2⟩
theorem Few.nil : Few [] := ⟨Nat.le_refl _, by decide⟩
theorem Few.app {a b : List Nat} (ha : Few a) (hb : Few b) : Few (a ++ b) := by
  have h := hb.from ha.1
  refine ⟨by rw [trail_app]; exact h.1, ?_⟩
  rw [mxZ_app]
  have := ha.2
  have := h.2
  omega
theorem Few.flat : ∀ {ws : List (List Nat)}, (∀ w ∈ ws, Few w) → Few ws.flatten
  | [], _ => Few.nil
  | w :: r, h => (h w (List.mem_cons_self ..)).app (Few.flat fun x hx => h x (List.mem_cons_of_mem _ hx))
instance (w : List Nat) : Decidable (Few w) := by
  unfold Few
  exact inferInstance
/-- a mark, a tag, a telling, noughts -/
def mk12 : List Nat := [48, 48, 48, 48, 48, 48, 48, 48, 48, 48, 48, 49]
theorem cnt_mark (t : Nat) : cntM t mk12 = 1 ∧ trail t mk12 = 0 := by
  have e : mk12 = List.replicate 11 48 ++ [49] := rfl
  rw [e, cntM_app, trail_app, cntM_rep, trail_rep]
  refine ⟨?_, rfl⟩
  show 0 + ((if 49 = 49 ∧ 11 ≤ t + 11 then 1 else 0) + 0) = 1
  rw [if_pos ⟨rfl, by omega⟩]
theorem cnt_row {t c n : Nat} {w : List Nat} (hw : Few w) : cntM t (mk12 ++ (c :: w) ++ List.replicate n 48) = 1 := by
  rw [cntM_app, cntM_app, (cnt_mark t).1, (cnt_mark t).2, cntM_rep]
  have : cntM 0 (c :: w) = 0 := by
    refine cntM_none ?_
    show max 0 (mxZ (tz 0 c) w) ≤ 10
    have h1 : tz 0 c ≤ 4 := by
      unfold tz
      split <;> omega
    have := (hw.from h1).2
    omega
  rw [this]
theorem cnt_flat : ∀ {ws : List (List Nat)} (t : Nat), (∀ w ∈ ws, ∀ t, cntM t w = 1) → cntM t ws.flatten = ws.length
  | [], _, _ => rfl
  | w :: r, t, h => by
    rw [List.flatten_cons, cntM_app, h w (List.mem_cons_self ..) t, cnt_flat (ws := r) _ fun x hx => h x (List.mem_cons_of_mem _ hx), List.length_cons]
    omega
theorem cnt_end (t : Nat) : cntM t (mk12 ++ [49]) = 1 := by
  rw [cntM_app, (cnt_mark t).1, (cnt_mark t).2]
  rfl
--END
end Fp

set_option Elab.async false
set_option linter.all false
set_option maxRecDepth 100000
set_option maxHeartbeats 4000000
/-! Bits cut at the marks' ends, rows filled up. -/
namespace Fp
open PySem L2 PyProof.Rows
--PURE
/-- bits cut behind each 1 with eleven noughts ahead: the noughts ahead, what is begun -/
def cutL : Nat → List Nat → List Nat → List (List Nat)
  | _, cur, [] => [cur]
  | t, cur, c :: r => if c = 49 ∧ 11 ≤ t then (cur ++ [c]) :: cutL 0 [] r else cutL (tz t c) (cur ++ [c]) r
theorem cutL_few : ∀ (w : List Nat) (t : Nat) (cur r : List Nat), mxZ t w ≤ 10 → cutL t cur (w ++ r) = cutL (trail t w) (cur ++ w) r
  | [], t, cur, r, _ => by
    show cutL t cur r = cutL t (cur ++ []) r
    rw [List.append_nil]
  | c :: w, t, cur, r, h => by
    have h : max t (mxZ (tz t c) w) ≤ 10 := h
    show (if c = 49 ∧ 11 ≤ t then (cur ++ [c]) :: cutL 0 [] (w ++ r) else cutL (tz t c) (cur ++ [c]) (w ++ r)) = _
    rw [if_neg (fun z => by have := z.2; omega), cutL_few w (tz t c) (cur ++ [c]) r (by omega), List.append_assoc]
    rfl
theorem cutL_rep : ∀ (n t : Nat) (cur r : List Nat), cutL t cur (List.replicate n 48 ++ r) = cutL (t + n) (cur ++ List.replicate n 48) r
  | 0, t, cur, r => by
    show cutL t cur r = cutL t (cur ++ []) r
    rw [List.append_nil]
  | n + 1, t, cur, r => by
    show (if 48 = 49 ∧ 11 ≤ t then (cur ++ [48]) :: cutL 0 [] (List.replicate n 48 ++ r) else cutL (t + 1) (cur ++ [48]) (List.replicate n 48 ++ r)) = _
    rw [if_neg (fun z => absurd z.1 (by decide)), cutL_rep n (t + 1) (cur ++ [48]) r, List.append_assoc, show t + 1 + n = t + (n + 1) by omega]
    rfl
theorem cutL_mark (t : Nat) (cur r : List Nat) : cutL t cur (mk12 ++ r) = (cur ++ mk12) :: cutL 0 [] r := by
  have e : mk12 ++ r = List.replicate 11 48 ++ 49 :: r := rfl
  rw [e, cutL_rep]
  show (if 49 = 49 ∧ 11 ≤ t + 11 then (cur ++ List.replicate 11 48 ++ [49]) :: cutL 0 [] r else _) = _
  rw [if_pos ⟨rfl, by omega⟩, List.append_assoc]
  rfl
/-- parts, each behind a mark -/
def cuts : List Nat → List (List Nat) → List (List Nat)
  | cur, [] => [cur]
  | cur, w :: r => (cur ++ mk12) :: cuts w r
theorem cuts_len : ∀ (ws : List (List Nat)) (cur : List Nat), (cuts cur ws).length = ws.length + 1
  | [], _ => rfl
  | w :: r, cur => by
    show (cuts w r).length + 1 = _
    rw [cuts_len r w]
    rfl
theorem cutL_cuts : ∀ (ws : List (List Nat)) (t : Nat) (cur : List Nat), (∀ w ∈ ws, mxZ 0 w ≤ 10) → cutL t cur (ws.map (mk12 ++ ·)).flatten = cuts cur ws
  | [], _, _, _ => rfl
  | w :: r, t, cur, h => by
    rw [List.map_cons, List.flatten_cons, List.append_assoc, cutL_mark, cutL_few w 0 [] _ (h w (List.mem_cons_self ..)), cutL_cuts r _ _ (fun x hx => h x (List.mem_cons_of_mem _ hx))]
    rfl
/-- one part filled up -/
def fillP (many least k : Nat) (p : List Nat) : List Nat := if k ≤ many then p.take (p.length - 12) ++ List.replicate (least - p.length) 48 ++ p.drop (p.length - 12) else p
def fillF (many least : Nat) : Nat → List (List Nat) → List Nat
  | _, [] => []
  | k, p :: r => fillP many least k p ++ fillF many least (k + 1) r
theorem fillF_past {many least : Nat} : ∀ (ps : List (List Nat)) (k : Nat), many < k → fillF many least k ps = ps.flatten
  | [], _, _ => rfl
  | p :: r, k, h => by
    show fillP many least k p ++ fillF many least (k + 1) r = _
    rw [fillF_past r (k + 1) (by omega), List.flatten_cons]
    unfold fillP
    rw [if_neg (by omega)]
def pad12 (least : Nat) (w : List Nat) : List Nat := w ++ List.replicate (least - (12 + w.length)) 48
theorem fillP_mark {many least k : Nat} {w : List Nat} (h : k ≤ many) : fillP many least k (w ++ mk12) = pad12 least w ++ mk12 := by
  unfold fillP pad12
  have l : (w ++ mk12).length = w.length + 12 := by
    rw [List.length_append]
    rfl
  rw [if_pos h, l, Nat.add_sub_cancel, List.take_left, List.drop_left, Nat.add_comm w.length 12]
theorem fillF_cuts {many least : Nat} : ∀ (W : List (List Nat)) (w : List Nat) (k : Nat), k + W.length = many → fillF many least k (cuts w (W ++ List.replicate 6 [49])) = pad12 least w ++ (W.map fun x => mk12 ++ pad12 least x).flatten ++ (List.replicate 6 (mk12 ++ [49])).flatten
  | [], w, k, h => by
    show fillP many least k (w ++ mk12) ++ fillF many least (k + 1) (cuts [49] (List.replicate 5 [49])) = _
    have h : k + 0 = many := h
    rw [fillP_mark (by omega), fillF_past _ _ (by omega), List.append_assoc]
    show _ = pad12 least w ++ [] ++ _
    rw [List.append_nil]
    rfl
  | x :: W, w, k, h => by
    show fillP many least k (w ++ mk12) ++ fillF many least (k + 1) (cuts x (W ++ List.replicate 6 [49])) = _
    rw [List.length_cons] at h
    rw [fillP_mark (by omega), fillF_cuts W x (k + 1) (by omega), List.map_cons, List.flatten_cons]
    simp only [List.append_assoc]
/-- the law's filling up, by the parts -/
theorem fill_all {least : Nat} {W : List (List Nat)} (h : W ≠ []) : mk12 ++ fillF W.length least 1 ((cuts [] (W ++ List.replicate 6 [49])).drop 1) = (W.map fun x => mk12 ++ pad12 least x).flatten ++ (List.replicate 6 (mk12 ++ [49])).flatten := by
  cases W with
  | nil => exact absurd rfl h
  | cons w W =>
    show mk12 ++ fillF _ least 1 (cuts w (W ++ List.replicate 6 [49])) = _
    rw [fillF_cuts W w 1 (by rw [List.length_cons]; omega), List.map_cons, List.flatten_cons]
    simp only [List.append_assoc]
theorem fillF_app {many least : Nat} : ∀ (a b : List (List Nat)) (k : Nat), fillF many least k (a ++ b) = fillF many least k a ++ fillF many least (k + a.length) b
  | [], b, k => rfl
  | p :: r, b, k => by
    show fillP many least k p ++ fillF many least (k + 1) (r ++ b) = fillP many least k p ++ fillF many least (k + 1) r ++ _
    rw [fillF_app r b (k + 1), List.append_assoc, List.length_cons, show k + 1 + r.length = k + (r.length + 1) by omega]
/-- the walk of the cut: bits, where the part begins, the noughts ahead -/
theorem cutL_step {l : List Nat} {i b t c : Nat} (hb : b ≤ i) (hc : l[i]? = some c) : cutL t ((l.drop b).take (i - b)) (l.drop i) = if c = 49 ∧ 11 ≤ t then ((l.drop b).take (i + 1 - b)) :: cutL 0 ((l.drop (i + 1)).take (i + 1 - (i + 1))) (l.drop (i + 1)) else cutL (tz t c) ((l.drop b).take (i + 1 - b)) (l.drop (i + 1)) := by
  obtain ⟨hi, he⟩ := List.getElem?_eq_some_iff.mp hc
  have e1 : l.drop i = c :: l.drop (i + 1) := by rw [List.drop_eq_getElem_cons hi, he]
  have e2 : (l.drop b).take (i - b) ++ [c] = (l.drop b).take (i + 1 - b) := by
    have : (l.drop b)[i - b]? = some c := by rw [List.getElem?_drop, show b + (i - b) = i by omega, hc]
    rw [show i + 1 - b = i - b + 1 by omega, List.take_add_one, this]
    rfl
  rw [e1]
  show (if c = 49 ∧ 11 ≤ t then ((l.drop b).take (i - b) ++ [c]) :: cutL 0 [] (l.drop (i + 1)) else cutL (tz t c) ((l.drop b).take (i - b) ++ [c]) (l.drop (i + 1))) = _
  rw [e2, Nat.sub_self, List.take_zero]
theorem cutL_sum : ∀ (l : List Nat) (t : Nat) (cur : List Nat), (cutL t cur l).flatten = cur ++ l
  | [], t, cur => by
    show [cur].flatten = cur ++ []
    simp
  | c :: r, t, cur => by
    show (if c = 49 ∧ 11 ≤ t then (cur ++ [c]) :: cutL 0 [] r else cutL (tz t c) (cur ++ [c]) r).flatten = _
    split
    · rw [List.flatten_cons, cutL_sum r 0 []]
      simp
    · rw [cutL_sum r _ _]
      simp
theorem mem_flat_len {p : List Nat} : ∀ {ps : List (List Nat)}, p ∈ ps → p.length ≤ ps.flatten.length
  | q :: ps, h => by
    rw [List.flatten_cons, List.length_append]
    rcases List.mem_cons.mp h with e | e
    · rw [e]
      omega
    · have := mem_flat_len e
      omega
--END
end Fp

set_option Elab.async false
set_option linter.all false
set_option maxRecDepth 100000
set_option maxHeartbeats 4000000
/-! Bits of blocks, each with a mark behind it: their stretches. -/
namespace Fp
open PySem L2 PyProof.Rows
def NoMk (w : List Nat) : Prop := ∀ v, occ w v = false
theorem noMk_short {w : List Nat} (h : w.length < 12) : NoMk w := fun v => occ_far (by omega)
theorem noMk_pad {m : Nat} {w : List Nat} (h : mxZ 0 w ≤ 10) : NoMk (w ++ List.replicate m 48) := fun v => by
  cases e : occ (w ++ List.replicate m 48) v with
  | false => rfl
  | true =>
    exfalso
    obtain ⟨h1, h2⟩ := occ_iff.mp e
    have lt : v + 11 < w.length := by
      by_cases z : v + 11 < w.length
      · exact z
      · rw [List.getElem?_append_right (by omega), List.getElem?_replicate] at h1
        split at h1
        · cases h1
        · cases h1
    rw [List.drop_append_of_le_length (by omega), List.take_append_of_le_length (by rw [List.length_drop]; omega)] at h2
    have := ten_mxZ (t := 0) h2
    omega
def blk (ws : List (List Nat)) : List Nat := (ws.map (· ++ mkL)).flatten
theorem blk_cons (w : List Nat) (ws : List (List Nat)) : blk (w :: ws) = w ++ (mkL ++ blk ws) := by
  unfold blk
  rw [List.map_cons, List.flatten_cons, List.append_assoc]
theorem blk_app (a b : List (List Nat)) : blk (a ++ b) = blk a ++ blk b := by
  unfold blk
  rw [List.map_append, List.flatten_append]
theorem occ_app (P R : List Nat) (v : Nat) : occ (P ++ R) (P.length + v) = occ R v := by
  unfold occ
  rw [← List.drop_drop, List.drop_left]
theorem occ_here (P R : List Nat) : occ (P ++ (mkL ++ R)) P.length = true := by
  have := occ_app P (mkL ++ R) 0
  rw [Nat.add_zero] at this
  rw [this]
  rfl
theorem occ_before {w R : List Nat} (h : NoMk w) {u : Nat} (hu : u < w.length) : occ (w ++ (mkL ++ R)) u = false := by
  cases e : occ (w ++ (mkL ++ R)) u with
  | false => rfl
  | true =>
    exfalso
    obtain ⟨h1, h2⟩ := occ_iff.mp e
    by_cases z : u + 11 < w.length
    · rw [List.getElem?_append_left z] at h1
      rw [List.drop_append_of_le_length (by omega), List.take_append_of_le_length (by rw [List.length_drop]; omega)] at h2
      have := occ_iff.mpr ⟨h1, h2⟩
      rw [h u] at this
      cases this
    · rw [List.getElem?_append_right (by omega)] at h1
      have lt : u + 11 - w.length < 11 := by omega
      generalize u + 11 - w.length = j at h1 lt
      rw [List.getElem?_append_left (show j < mkL.length by show j < 12; omega)] at h1
      have : ∀ j, j < 11 → mkL[j]? = some 48 := by decide
      rw [this j lt] at h1
      cases h1
def posL : Nat → List (List Nat) → List Nat
  | _, [] => []
  | e, w :: ws => (e + w.length) :: posL (e + w.length + 12) ws
theorem occs_blk : ∀ (ws : List (List Nat)) (P Q : List Nat), (∀ w ∈ ws, NoMk w) → occs (P ++ (blk ws ++ Q)) (P.length + (blk ws).length) = occs (P ++ (blk ws ++ Q)) P.length ++ posL P.length ws
  | [], P, Q, _ => by
    show occs _ (P.length + 0) = _ ++ []
    rw [List.append_nil, Nat.add_zero]
  | w :: ws, P, Q, h => by
    have hw := h w (List.mem_cons_self ..)
    have ih := occs_blk ws (P ++ (w ++ mkL)) Q (fun x hx => h x (List.mem_cons_of_mem _ hx))
    have eL : P ++ (w ++ mkL) ++ (blk ws ++ Q) = P ++ (blk (w :: ws) ++ Q) := by
      rw [blk_cons]
      simp only [List.append_assoc]
    rw [eL] at ih
    have lm : mkL.length = 12 := rfl
    have e1 : (P ++ (w ++ mkL)).length = P.length + w.length + 12 := by
      rw [List.length_append, List.length_append, lm, Nat.add_assoc]
    have e2 : (blk (w :: ws)).length = w.length + 12 + (blk ws).length := by
      rw [blk_cons, List.length_append, List.length_append, lm, Nat.add_assoc]
    rw [e1] at ih
    rw [e2, show P.length + (w.length + 12 + (blk ws).length) = P.length + w.length + 12 + (blk ws).length by omega, ih]
    have one := occs_one (l := P ++ (blk (w :: ws) ++ Q)) (s := P.length) (k := P.length + w.length) (by omega) ?_ ?_
    · rw [one, List.append_assoc]
      rfl
    · rw [blk_cons, List.append_assoc, List.append_assoc, ← List.append_assoc, ← List.length_append]
      exact occ_here _ _
    · intro v a b
      obtain ⟨u, rfl⟩ : ∃ u, v = P.length + u := ⟨v - P.length, by omega⟩
      rw [occ_app, blk_cons, List.append_assoc, List.append_assoc]
      exact occ_before hw (by omega)
theorem occs_pre (l : List Nat) {s t : Nat} (h : s ≤ t) : ∃ X, occs l t = occs l s ++ X := by
  obtain ⟨d, rfl⟩ : ∃ d, t = s + d := ⟨t - s, by omega⟩
  refine ⟨((List.range d).map (s + ·)).filter (occ l), ?_⟩
  unfold occs
  rw [List.range_add, List.filter_append]
theorem posL_at : ∀ (ws : List (List Nat)) (e i : Nat), i < ws.length → (posL e ws)[i]? = some (e + (blk (ws.take i)).length + (ws.getD i []).length)
  | [], _, _, h => absurd h (Nat.not_lt_zero _)
  | w :: ws, e, 0, _ => rfl
  | w :: ws, e, i + 1, h => by
    have ih := posL_at ws (e + w.length + 12) i (by rw [List.length_cons] at h; omega)
    show (posL (e + w.length + 12) ws)[i]? = _
    rw [ih]
    show some _ = some (e + (blk (w :: ws.take i)).length + (ws.getD i []).length)
    rw [blk_cons, List.length_append, List.length_append]
    show some _ = some (e + (w.length + (12 + _)) + _)
    congr 1
    omega
theorem blk_take {ws : List (List Nat)} {i : Nat} (h : i < ws.length) : blk (ws.take (i + 1)) = blk (ws.take i) ++ (ws.getD i [] ++ mkL) := by
  rw [List.take_succ, List.getElem?_eq_getElem h, List.getD_eq_getElem?_getD, List.getElem?_eq_getElem h, blk_app]
  show _ ++ blk [ws[i]] = _
  rw [blk_cons]
  show _ ++ (ws[i] ++ (mkL ++ [])) = _
  rw [List.append_nil]
  rfl
theorem ends_blk {ws : List (List Nat)} {Q : List Nat} (h : ∀ w ∈ ws, NoMk w) {i : Nat} (hi : i < ws.length) : i < (endsL (blk ws ++ Q)).length ∧ (endsL (blk ws ++ Q)).getD i 0 = (blk (ws.take (i + 1))).length := by
  have o := occs_blk ws [] Q h
  rw [List.nil_append, List.length_nil, Nat.zero_add] at o
  obtain ⟨X, hX⟩ := occs_pre (blk ws ++ Q) (s := (blk ws).length) (t := (blk ws ++ Q).length) (by rw [List.length_append]; omega)
  rw [o] at hX
  have o0 : occs (blk ws ++ Q) 0 = [] := rfl
  rw [o0, List.nil_append] at hX
  have at_ : (endsL (blk ws ++ Q))[i]? = some ((blk (ws.take (i + 1))).length) := by
    unfold endsL
    rw [hX, List.getElem?_map]
    have p := posL_at ws 0 i hi
    have lt : i < (posL 0 ws).length := by
      rcases Nat.lt_or_ge i (posL 0 ws).length with z | z
      · exact z
      · rw [List.getElem?_eq_none z] at p
        cases p
    rw [List.getElem?_append_left lt, p, blk_take hi, List.length_append, List.length_append]
    show some (0 + _ + _ + 12) = some (_ + (_ + 12))
    congr 1
    omega
  refine ⟨?_, ?_⟩
  · rcases Nat.lt_or_ge i (endsL (blk ws ++ Q)).length with z | z
    · exact z
    · rw [List.getElem?_eq_none z] at at_
      cases at_
  · rw [List.getD_eq_getElem?_getD, at_]
    rfl
theorem stt_blk {ws : List (List Nat)} {Q : List Nat} (h : ∀ w ∈ ws, NoMk w) {i : Nat} (hi : i + 1 < ws.length) : i < (sttL (blk ws ++ Q)).length ∧ (sttL (blk ws ++ Q)).getD i [] = ws.getD (i + 1) [] ++ mkL := by
  obtain ⟨a1, a2⟩ := ends_blk (Q := Q) h (i := i) (by omega)
  obtain ⟨b1, b2⟩ := ends_blk (Q := Q) h (i := i + 1) hi
  have l1 := sttL_len (blk ws ++ Q)
  obtain ⟨_, _, _, _, s5⟩ := str_at (l := blk ws ++ Q) b1
  refine ⟨by omega, ?_⟩
  rw [List.getD_eq_getElem?_getD, s5, a2, b2]
  show List.take _ _ = _
  have e1 : blk ws ++ Q = blk (ws.take (i + 1)) ++ ((ws.getD (i + 1) [] ++ mkL) ++ (blk (ws.drop (i + 2)) ++ Q)) := by
    rw [← List.append_assoc, ← List.append_assoc, ← blk_take hi, ← blk_app, List.take_append_drop]
  rw [blk_take hi, e1, List.drop_left, List.length_append, Nat.add_sub_cancel_left, List.take_left]
theorem few_one {w : List Nat} (h : Few w) (ne : w ≠ []) (hb : ∀ c ∈ w, c = 48 ∨ c = 49) : 49 ∈ w := by
  by_cases z : 49 ∈ w
  · exact z
  · exfalso
    have e : w = List.replicate w.length 48 := by
      rw [List.eq_replicate_iff]
      refine ⟨rfl, fun c hc => ?_⟩
      rcases hb c hc with y | y
      · exact y
      · rw [y] at hc
        exact absurd hc z
    have t := h.1
    rw [e, trail_rep] at t
    have : 0 < w.length := List.length_pos_iff.mpr ne
    omega
theorem emp_end : emp ([49] ++ mkL) = true := by decide
theorem not_emp {c m : Nat} {w : List Nat} (hc : c = 48 ∨ c = 49 ∧ 49 ∈ w) : emp ((c :: w) ++ List.replicate m 48 ++ mkL) = false := by
  unfold emp
  refine decide_eq_false (fun z => ?_)
  rw [List.cons_append, List.cons_append, List.cons.injEq] at z
  obtain ⟨z1, z2⟩ := z
  rcases hc with rfl | ⟨rfl, hw⟩
  · cases z1
  · have e : mkL = List.replicate 11 48 ++ [49] := rfl
    rw [e, ← List.append_assoc] at z2
    have := List.append_inj_left' z2 rfl
    have hm : 49 ∈ List.replicate (List.length (49 :: (w ++ List.replicate m 48 ++ List.replicate 11 48 ++ [49])) - 2) 48 := by
      rw [← this]
      exact List.mem_append_left _ (List.mem_append_left _ hw)
    have := (List.mem_replicate.mp hm).2
    cases this
theorem strR_rows {ah be : List Nat} {W F' : List (List Nat)} {b : Bool} (hA : NoMk ah) (hW : ∀ w ∈ W, NoMk w ∧ emp (w ++ mkL) = false) (h : StrR (sttL (blk (ah :: (W ++ List.replicate 5 [49])) ++ be)) F' b) : b = true ∧ F' = W.map (· ++ mkL) := by
  have hN : ∀ w ∈ ah :: (W ++ List.replicate 5 [49]), NoMk w := fun w hw => by
    rcases List.mem_cons.mp hw with rfl | hw
    · exact hA
    rcases List.mem_append.mp hw with hw | hw
    · exact (hW w hw).1
    · rw [(List.mem_replicate.mp hw).2]
      exact noMk_short (by decide)
  have len : (ah :: (W ++ List.replicate 5 [49])).length = W.length + 6 := by
    rw [List.length_cons, List.length_append, List.length_replicate]
  have st := fun i (hi : i + 1 < (ah :: (W ++ List.replicate 5 [49])).length) => stt_blk (Q := be) hN hi
  rw [len] at st
  generalize sttL (blk (ah :: (W ++ List.replicate 5 [49])) ++ be) = F at h st
  have lF := (st (W.length + 4) (by omega)).1
  have row : ∀ i, i < W.length → F.getD i [] = W.getD i [] ++ mkL := fun i hi => by
    rw [(st i (by omega)).2, List.getD_cons_succ, List.getD_eq_getElem?_getD, List.getElem?_append_left hi, ← List.getD_eq_getElem?_getD]
  have rowE : ∀ i, i < W.length → emp (F.getD i []) = false := fun i hi => by
    rw [row i hi, List.getD_eq_getElem?_getD, List.getElem?_eq_getElem hi]
    exact (hW _ (List.getElem_mem hi)).2
  have fin : ∀ i, W.length ≤ i → i < W.length + 5 → emp (F.getD i []) = true := fun i h1 h2 => by
    rw [(st i (by omega)).2, List.getD_cons_succ, List.getD_eq_getElem?_getD, List.getElem?_append_right h1, List.getElem?_replicate, if_pos (by omega)]
    exact emp_end
  have two : E2 F (W.length + 1) := ⟨fin _ (by omega) (by omega), fin _ (by omega) (by omega)⟩
  rcases h with ⟨hb, a, a1, a2, a3, a4, a5⟩ | ⟨_, no, _⟩
  · refine ⟨hb, ?_⟩
    have n1 : ¬ a ≤ W.length := fun z => by
      have := a3.1
      rw [rowE (a - 1) (by omega)] at this
      cases this
    have n2 : ¬ W.length + 1 < a := fun z => a4 _ (by omega) z two
    have ea : a - 1 = W.length := by omega
    rw [a5, ea]
    refine List.ext_getElem? fun i => ?_
    rw [List.getElem?_map]
    by_cases z : i < W.length
    · have r := row i z
      rw [List.getD_eq_getElem?_getD, List.getElem?_eq_getElem (show i < F.length by omega), List.getD_eq_getElem?_getD, List.getElem?_eq_getElem z] at r
      rw [List.getElem?_take_of_lt z, List.getElem?_eq_getElem (show i < F.length by omega), List.getElem?_eq_getElem z]
      exact congrArg some r
    · rw [List.getElem?_eq_none (by rw [List.length_take]; omega), List.getElem?_eq_none (by omega)]
      rfl
  · exact absurd two (no _ (by omega) (by omega))
end Fp

set_option Elab.async false
set_option linter.all false
set_option maxRecDepth 100000
set_option maxHeartbeats 4000000
/-! A block that came whole, with the mark ahead of it and the one behind it: its stretch among any bits (for k25). -/
namespace Fp
open PySem L2 PyProof.Rows
theorem ends_inner {X w Y : List Nat} (h : NoMk w) : ∃ Z, endsL (X ++ (mkL ++ (w ++ (mkL ++ Y)))) = (occs (X ++ (mkL ++ (w ++ (mkL ++ Y)))) X.length).map (· + 12) ++ (X.length + 12) :: (X.length + 12 + w.length + 12) :: Z := by
  have o1 := occs_one (l := X ++ (mkL ++ (w ++ (mkL ++ Y)))) (s := X.length) (k := X.length) (Nat.le_refl _) (occ_here X _) (fun v a b => absurd b (by omega))
  have o2 := occs_blk [w] (X ++ mkL) Y (fun x hx => by rw [List.mem_singleton.mp hx]; exact h)
  have eL : X ++ mkL ++ (blk [w] ++ Y) = X ++ (mkL ++ (w ++ (mkL ++ Y))) := by
    rw [blk_cons]
    show X ++ mkL ++ (w ++ (mkL ++ []) ++ Y) = _
    simp only [List.append_assoc, List.append_nil, List.nil_append]
  have lm : mkL.length = 12 := rfl
  have lb : (blk [w]).length = w.length + 12 := by
    rw [blk_cons, List.length_append]
    rfl
  rw [eL, List.length_append, lm, lb, o1] at o2
  obtain ⟨Z, hZ⟩ := occs_pre (X ++ (mkL ++ (w ++ (mkL ++ Y)))) (s := X.length + 12 + (w.length + 12)) (t := (X ++ (mkL ++ (w ++ (mkL ++ Y)))).length) (by
    rw [List.length_append, List.length_append, List.length_append, List.length_append, lm]
    omega)
  rw [o2] at hZ
  refine ⟨Z.map (· + 12), ?_⟩
  unfold endsL
  rw [hZ]
  simp only [List.map_append, List.map_cons, List.map_nil, List.append_assoc, List.cons_append, List.nil_append, posL]
theorem stt_inner {X w Y : List Nat} (h : NoMk w) : ∃ s, s + 1 < (endsL (X ++ (mkL ++ (w ++ (mkL ++ Y))))).length ∧ (endsL (X ++ (mkL ++ (w ++ (mkL ++ Y)))))[s]? = some (X.length + 12) ∧ (sttL (X ++ (mkL ++ (w ++ (mkL ++ Y)))))[s]? = some (w ++ mkL) := by
  obtain ⟨Z, hZ⟩ := ends_inner (X := X) (Y := Y) h
  generalize hA : (occs (X ++ (mkL ++ (w ++ (mkL ++ Y)))) X.length).map (· + 12) = A at hZ
  have g0 : (endsL (X ++ (mkL ++ (w ++ (mkL ++ Y)))))[A.length]? = some (X.length + 12) := by
    rw [hZ, List.getElem?_append_right (Nat.le_refl _), Nat.sub_self]
    rfl
  have g1 : (endsL (X ++ (mkL ++ (w ++ (mkL ++ Y)))))[A.length + 1]? = some (X.length + 12 + w.length + 12) := by
    rw [hZ, List.getElem?_append_right (by omega), show A.length + 1 - A.length = 1 by omega]
    rfl
  have lt : A.length + 1 < (endsL (X ++ (mkL ++ (w ++ (mkL ++ Y))))).length := by
    rw [hZ, List.length_append, List.length_cons, List.length_cons]
    omega
  refine ⟨A.length, lt, g0, ?_⟩
  obtain ⟨_, _, _, _, s5⟩ := str_at lt
  simp only [s5, List.getD_eq_getElem?_getD, g0, g1]
  show some ((List.drop (X.length + 12) _).take (X.length + 12 + w.length + 12 - (X.length + 12))) = _
  have e1 : X ++ (mkL ++ (w ++ (mkL ++ Y))) = (X ++ mkL) ++ ((w ++ mkL) ++ Y) := by simp only [List.append_assoc]
  have e2 : X.length + 12 = (X ++ mkL).length := by
    rw [List.length_append]
    rfl
  have e3 : X.length + 12 + w.length + 12 - (X.length + 12) = (w ++ mkL).length := by
    rw [List.length_append]
    show _ = w.length + 12
    omega
  rw [e3, e1, e2, List.drop_left, List.take_left]
end Fp

set_option Elab.async false
set_option linter.all false
set_option maxRecDepth 100000
set_option maxHeartbeats 4000000
/-! Bits followed through spoils, each with its place in what was sent (for k25). -/
namespace Fp
open PySem L2 PyProof.Rows
abbrev Ar := List (Nat × Option Nat)
def RisesP (a b : Nat × Option Nat) : Prop := ∀ p q, a.2 = some p → b.2 = some q → p < q
def OkR (l : List Nat) (x : Ar) : Prop := (∀ y ∈ x, ∀ p, y.2 = some p → l[p]? = some y.1) ∧ x.Pairwise RisesP
def arr0 (l : List Nat) : Ar := (List.range l.length).map fun i => (l.getD i 0, some i)
theorem okR_0 (l : List Nat) : OkR l (arr0 l) := by
  refine ⟨fun y hy p hp => ?_, ?_⟩
  · obtain ⟨i, hi, rfl⟩ := List.mem_map.mp hy
    have hi := List.mem_range.mp hi
    have e : i = p := Option.some.inj hp
    rw [← e]
    show l[i]? = some (l.getD i 0)
    rw [List.getD_eq_getElem?_getD, List.getElem?_eq_getElem hi]
    rfl
  · unfold arr0
    rw [List.pairwise_map]
    refine List.Pairwise.imp (fun {a b} h => ?_) List.pairwise_lt_range
    intro p q hp hq
    cases hp
    cases hq
    exact h
theorem okR_sub {l : List Nat} {x z : Ar} (h : OkR l x) (s : z.Sublist x) : OkR l z := ⟨fun y hy => h.1 y (s.subset hy), h.2.sublist s⟩
theorem okR_ins {l : List Nat} {A B : Ar} {d : Nat} (h : OkR l (A ++ B)) : OkR l (A ++ (d, none) :: B) := by
  refine ⟨fun y hy p hp => ?_, ?_⟩
  · rcases List.mem_append.mp hy with z | z
    · exact h.1 y (List.mem_append_left _ z) p hp
    · rcases List.mem_cons.mp z with rfl | z
      · cases hp
      · exact h.1 y (List.mem_append_right _ z) p hp
  · obtain ⟨h1, h2, h3⟩ := List.pairwise_append.mp h.2
    refine List.pairwise_append.mpr ⟨h1, List.pairwise_cons.mpr ⟨(fun b _ p q hp _ => by cases hp), h2⟩, fun a ha b hb => ?_⟩
    rcases List.mem_cons.mp hb with rfl | hb
    · intro p q _ hq
      cases hq
    · exact h3 a ha b hb
theorem okR_put {l : List Nat} {x : Ar} (h : OkR l x) (n d : Nat) : OkR l (x.take n ++ (d, none) :: x.drop n) := okR_ins (by rw [List.take_append_drop]; exact h)
theorem okR_erase {l : List Nat} {x : Ar} (h : OkR l x) (n : Nat) : OkR l (x.eraseIdx n) := okR_sub h (List.eraseIdx_sublist x n)
theorem okR_set {l : List Nat} {x : Ar} (h : OkR l x) {n d : Nat} (hn : n < x.length) : OkR l (x.set n (d, none)) := by
  rw [List.set_eq_take_append_cons_drop, if_pos hn]
  refine okR_ins (okR_sub h ?_)
  have := List.eraseIdx_sublist x n
  rw [List.eraseIdx_eq_take_drop_succ] at this
  exact this
/-- a place stands once -/
theorem place_once {l : List Nat} {x : Ar} (h : OkR l x) {i j p : Nat} (hi : (x.map Prod.snd)[i]? = some (some p)) (hj : (x.map Prod.snd)[j]? = some (some p)) : i = j := by
  rw [List.getElem?_map] at hi hj
  cases ei : x[i]? with
  | none =>
    rw [ei] at hi
    cases hi
  | some a =>
    cases ej : x[j]? with
    | none =>
      rw [ej] at hj
      cases hj
    | some b =>
      rw [ei] at hi
      rw [ej] at hj
      have hi : a.2 = some p := Option.some.inj hi
      have hj : b.2 = some p := Option.some.inj hj
      obtain ⟨li, ei⟩ := List.getElem?_eq_some_iff.mp ei
      obtain ⟨lj, ej⟩ := List.getElem?_eq_some_iff.mp ej
      have pw := List.pairwise_iff_getElem.mp h.2
      rcases Nat.lt_trichotomy i j with z | z | z
      · have := pw i j li lj z p p (by rw [ei]; exact hi) (by rw [ej]; exact hj)
        omega
      · exact z
      · have := pw j i lj li z p p (by rw [ej]; exact hj) (by rw [ei]; exact hi)
        omega
/-- what came whole is what was sent -/
theorem came_bits {l : List Nat} {x : Ar} (h : OkR l x) {a b n : Nat} (e : ((x.map Prod.snd).drop a).take n = (List.range n).map fun k => some (b + k)) : ((x.map Prod.fst).drop a).take n = (l.drop b).take n ∧ b + n ≤ l.length ∨ n = 0 := by
  by_cases n0 : n = 0
  · exact .inr n0
  left
  have at_ : ∀ k, k < n → ∃ c, x[a + k]? = some (c, some (b + k)) ∧ l[b + k]? = some c := fun k hk => by
    have e1 : (((x.map Prod.snd).drop a).take n)[k]? = some (some (b + k)) := by
      rw [e, List.getElem?_map, List.getElem?_range hk]
      rfl
    rw [List.getElem?_take_of_lt hk, List.getElem?_drop, List.getElem?_map] at e1
    cases ex : x[a + k]? with
    | none =>
      rw [ex] at e1
      cases e1
    | some y =>
      rw [ex] at e1
      have e1 : y.2 = some (b + k) := Option.some.inj e1
      exact ⟨y.1, by rw [← e1], h.1 y (List.mem_of_getElem? ex) _ e1⟩
  have bn : b + n ≤ l.length := by
    obtain ⟨c, _, h2⟩ := at_ (n - 1) (by omega)
    have := (List.getElem?_eq_some_iff.mp h2).1
    omega
  refine ⟨?_, bn⟩
  refine List.ext_getElem? fun k => ?_
  by_cases hk : k < n
  · obtain ⟨c, h1, h2⟩ := at_ k hk
    rw [List.getElem?_take_of_lt hk, List.getElem?_take_of_lt hk, List.getElem?_drop, List.getElem?_drop, List.getElem?_map, h1, h2]
    rfl
  · rw [List.getElem?_eq_none (by rw [List.length_take]; omega), List.getElem?_eq_none (by rw [List.length_take]; omega)]
end Fp

set_option Elab.async false
set_option linter.all false
set_option maxRecDepth 100000
set_option maxHeartbeats 4000000
/-! Tuples in a list (of any kind), and rows that came whole (for k25). -/
namespace Fp
open PySem L2 PyProof.Rows
/-! ### tuples in a list -/
def TpsAt {α : Type} (f : α → List V) (H : Hp) : List V → List α → Prop
  | [], [] => True
  | v :: vs, x :: xs => (∃ a, v = .ref a ∧ H a = some (.tup (f x))) ∧ TpsAt f H vs xs
  | _, _ => False
section
variable {α : Type} {f : α → List V} {H H' : Hp}
theorem TpsAt.len : ∀ {vs : List V} {xs : List α}, TpsAt f H vs xs → vs.length = xs.length
  | [], [], _ => rfl
  | _ :: _, _ :: _, ⟨_, r⟩ => congrArg (· + 1) (TpsAt.len r)
  | [], _ :: _, h => h.elim
  | _ :: _, [], h => h.elim
theorem TpsAt.mono (k : ∀ (a : Addr) (xs : List V), H a = some (.tup xs) → H' a = some (.tup xs)) : ∀ {vs : List V} {xs : List α}, TpsAt f H vs xs → TpsAt f H' vs xs
  | [], [], _ => trivial
  | _ :: _, _ :: _, ⟨⟨t, e, h⟩, r⟩ => ⟨⟨t, e, k _ _ h⟩, TpsAt.mono k r⟩
  | [], _ :: _, h => h.elim
  | _ :: _, [], h => h.elim
theorem TpsAt.get : ∀ {vs : List V} {xs : List α} {k : Nat} {x : α}, TpsAt f H vs xs → xs[k]? = some x → ∃ t, vs[k]? = some (.ref t) ∧ H t = some (.tup (f x))
  | [], [], _, _, _, h => by cases h
  | _ :: _, _ :: _, 0, x, ⟨⟨t, e, h⟩, _⟩, hk => by
    cases hk
    exact ⟨t, congrArg some e, h⟩
  | _ :: _, _ :: _, k + 1, x, ⟨_, r⟩, hk => TpsAt.get (k := k) r hk
  | [], _ :: _, _, _, h, _ => h.elim
  | _ :: _, [], _, _, h, _ => h.elim
theorem TpsAt.getV : ∀ {vs : List V} {xs : List α} {k : Nat} {v : V}, TpsAt f H vs xs → vs[k]? = some v → ∃ t x, xs[k]? = some x ∧ v = .ref t ∧ H t = some (.tup (f x))
  | [], [], _, _, _, h => by cases h
  | _ :: _, x :: _, 0, v, ⟨⟨t, e, h⟩, _⟩, hk => by
    cases hk
    exact ⟨t, x, rfl, e, h⟩
  | _ :: _, _ :: _, k + 1, v, ⟨_, r⟩, hk => TpsAt.getV (k := k) r hk
  | [], _ :: _, _, _, h, _ => h.elim
  | _ :: _, [], _, _, h, _ => h.elim
theorem TpsAt.app {ws : List V} {ys : List α} (k : TpsAt f H ws ys) : ∀ {vs : List V} {xs : List α}, TpsAt f H vs xs → TpsAt f H (vs ++ ws) (xs ++ ys)
  | [], [], _ => k
  | _ :: _, _ :: _, h => ⟨h.1, TpsAt.app k h.2⟩
  | [], _ :: _, h => h.elim
  | _ :: _, [], h => h.elim
theorem TpsAt.take : ∀ {vs : List V} {xs : List α} (n : Nat), TpsAt f H vs xs → TpsAt f H (vs.take n) (xs.take n)
  | [], [], n, _ => by rw [List.take_nil, List.take_nil]; trivial
  | _ :: _, _ :: _, 0, _ => trivial
  | _ :: _, _ :: _, n + 1, h => ⟨h.1, TpsAt.take n h.2⟩
  | [], _ :: _, _, h => h.elim
  | _ :: _, [], _, h => h.elim
theorem TpsAt.drop : ∀ {vs : List V} {xs : List α} (n : Nat), TpsAt f H vs xs → TpsAt f H (vs.drop n) (xs.drop n)
  | [], [], n, _ => by rw [List.drop_nil, List.drop_nil]; trivial
  | _ :: _, _ :: _, 0, h => h
  | _ :: _, _ :: _, n + 1, h => TpsAt.drop n h.2
  | [], _ :: _, _, h => h.elim
  | _ :: _, [], _, h => h.elim
theorem TpsAt.one {t : Addr} {x : α} (h : H t = some (.tup (f x))) : TpsAt f H [.ref t] [x] := ⟨⟨t, rfl, h⟩, trivial⟩
theorem TpsAt.push {vs : List V} {xs : List α} {t : Addr} {x : α} (h : TpsAt f H vs xs) (ht : H t = some (.tup (f x))) : TpsAt f H (vs ++ [.ref t]) (xs ++ [x]) := TpsAt.app (TpsAt.one ht) h
end
/-! ### data in general -/
theorem lay_all {α : Type} (f : α → PyData) : ∀ {xs : List α}, (∀ x ∈ xs, PyData.canLay0 (f x) = true) → PyData.canLayAll0 (xs.map f) = true
  | [], _ => by simp [PyData.canLayAll0]
  | x :: xs, h => by
    have ih := lay_all f (xs := xs) fun y hy => h y (List.mem_cons_of_mem _ hy)
    have h1 := h x (List.mem_cons_self ..)
    simp only [List.map_cons, PyData.canLayAll0, h1, ih, Bool.and_true]
theorem depth_all {α : Type} (f : α → PyData) (n : Nat) : ∀ {xs : List α}, (∀ x ∈ xs, PyData.depth (f x) ≤ n) → PyData.depthAll (xs.map f) ≤ n
  | [], _ => by simp [PyData.depthAll]
  | x :: xs, h => by
    have ih := depth_all f n (xs := xs) fun y hy => h y (List.mem_cons_of_mem _ hy)
    have h1 := h x (List.mem_cons_self ..)
    simp only [List.map_cons, PyData.depthAll]
    omega
/-- data that may be laid, not deep -/
def DOk (d : PyData) (n : Nat) : Prop := PyData.canLay0 d = true ∧ PyData.depth d ≤ n
theorem DOk.shaped {d : PyData} {n : Nat} (h : DOk d n) (hn : n ≤ 64 := by decide) : SeqAt.shaped d = true := by
  show (PyData.canLay0 d && decide (PyData.depth d ≤ 64)) = true
  rw [Bool.and_eq_true]
  exact ⟨h.1, decide_eq_true (Nat.le_trans h.2 hn)⟩
theorem DOk.refl {d : PyData} {n : Nat} (h : DOk d n) : PyData.eqv d d = true := SeqAt.eqv_refl _ h.1
theorem DOk.list {α : Type} {f : α → PyData} {n : Nat} {xs : List α} (h : ∀ x ∈ xs, DOk (f x) n) : DOk (.list (xs.map f)) (n + 1) := by
  refine ⟨by simp only [PyData.canLay0]; exact lay_all f fun x hx => (h x hx).1, ?_⟩
  have := depth_all f n fun x hx => (h x hx).2
  simp only [PyData.depth]
  omega
theorem DOk.tuple {α : Type} {f : α → PyData} {n : Nat} {xs : List α} (h : ∀ x ∈ xs, DOk (f x) n) : DOk (.tuple (xs.map f)) (n + 1) := by
  refine ⟨by simp only [PyData.canLay0]; exact lay_all f fun x hx => (h x hx).1, ?_⟩
  have := depth_all f n fun x hx => (h x hx).2
  simp only [PyData.depth]
  omega
theorem DOk.int (i : Int) : DOk (.int i) 0 := ⟨by simp only [PyData.canLay0], by simp only [PyData.depth]; exact Nat.le_refl _⟩
theorem DOk.bool (b : Bool) : DOk (.bool b) 0 := ⟨by simp only [PyData.canLay0], by simp only [PyData.depth]; exact Nat.le_refl _⟩
theorem DOk.none : DOk .none 0 := ⟨by simp only [PyData.canLay0], by simp only [PyData.depth]; exact Nat.le_refl _⟩
theorem DOk.str {l : List Nat} (h : Codes l) : DOk (.str (sOf l)) 0 := ⟨by simp only [PyData.canLay0]; exact strOk_of h, by simp only [PyData.depth]; exact Nat.le_refl _⟩
theorem DOk.word {z : Str} (h : PyData.strOk z = true) : DOk (.str z) 0 := ⟨by simp only [PyData.canLay0]; exact h, by simp only [PyData.depth]; exact Nat.le_refl _⟩
theorem DOk.mono {d : PyData} {n m : Nat} (h : DOk d n) (l : n ≤ m) : DOk d m := ⟨h.1, Nat.le_trans h.2 l⟩
theorem dp_all {α : Type} {K : PySem.W.Frag} {H : Hp} {g : α → V} {f : α → PyData} : ∀ {xs : List α}, (∀ x ∈ xs, Dp K H (g x) (f x)) → DpAll K H (xs.map g) (xs.map f)
  | [], _ => .nil
  | x :: xs, h => .cons (h x (List.mem_cons_self ..)) (dp_all fun y hy => h y (List.mem_cons_of_mem _ hy))
theorem eqvAll_map {α : Type} [DecidableEq α] {f : α → PyData} (h : ∀ x y, PyData.eqv (f x) (f y) = decide (x = y)) : ∀ xs ys : List α, PyData.eqvAll (xs.map f) (ys.map f) = decide (xs = ys)
  | [], [] => by simp [PyData.eqvAll]
  | [], y :: ys => by simp [PyData.eqvAll]
  | x :: xs, [] => by simp [PyData.eqvAll]
  | x :: xs, y :: ys => by
    simp only [List.map_cons, PyData.eqvAll, h x y, eqvAll_map h xs ys]
    by_cases e : x = y <;> by_cases e2 : xs = ys <;> simp [e, e2]
theorem dp_tups {α : Type} {K : PySem.W.Frag} {H : Hp} {g : α → List V} {f : α → List PyData} (h : ∀ x, DpAll K H (g x) (f x)) : ∀ {vs : List V} {xs : List α}, TpsAt g H vs xs → DpAll K H vs (xs.map fun x => .tuple (f x))
  | [], [], _ => .nil
  | _ :: _, x :: _, ⟨⟨t, e, ht⟩, r⟩ => by
    subst e
    exact .cons (.tup (.inl (.inl ht)) (h x)) (dp_tups h r)
  | [], _ :: _, h => h.elim
  | _ :: _, [], h => h.elim
theorem cutV_mid (xs : List V) (a b : Nat) : cutV xs (some (a : Int)) (some (b : Int)) = (xs.drop a).take (b - a) := by
  unfold cutV
  rw [HT.sIx_nat, HT.sIx_nat]
  show (xs.drop (min a xs.length)).take (min b xs.length - min a xs.length) = _
  by_cases ha : a ≤ xs.length
  · rw [show min a xs.length = a from Nat.min_eq_left ha]
    by_cases hb : b ≤ xs.length
    · rw [show min b xs.length = b from Nat.min_eq_left hb]
    · rw [show min b xs.length = xs.length from Nat.min_eq_right (by omega), List.take_of_length_le (by rw [List.length_drop]; omega), List.take_of_length_le (by rw [List.length_drop]; omega)]
  · rw [show min a xs.length = xs.length from Nat.min_eq_right (by omega), List.drop_eq_nil_of_le (Nat.le_refl _), List.drop_eq_nil_of_le (show xs.length ≤ a by omega), List.take_nil, List.take_nil]
theorem least_nat {p : Nat → Prop} (h : ∃ a, p a) : ∃ a, p a ∧ ∀ a', a' < a → ¬ p a' := by
  obtain ⟨a, ha⟩ := h
  induction a using Nat.strongRecOn with
  | _ a ih =>
    by_cases z : ∃ a', a' < a ∧ p a'
    · obtain ⟨a', h1, h2⟩ := z
      exact ih a' h1 h2
    · exact ⟨a, ha, fun a' h1 h2 => z ⟨a', h1, h2⟩⟩
/-! ### places, as values -/
def plV : Option Nat → V
  | none => .non
  | some p => .int (p : Int)
def plD : Option Nat → PyData
  | none => .none
  | some p => .int (p : Int)
def arV (y : Nat × Option Nat) : List V := [.str (sOf [y.1]), plV y.2]
theorem pl_flat : ∀ pl : List (Option Nat), (pl.map plV).all flatV = true
  | [] => rfl
  | none :: r => pl_flat r
  | some p :: r => pl_flat r
theorem pl_eq (y : Option Nat) (b : Nat) : eqV (plV y) (.int (b : Int)) = decide (y = some b) := by
  cases y with
  | none => rfl
  | some p =>
    show ((p : Int) == (b : Int)) = _
    by_cases e : p = b
    · rw [e]
      simp
    · have : ¬ ((p : Int) = (b : Int)) := fun z => e (Int.ofNat.inj z)
      simp [e, this]
theorem pl_in (pl : List (Option Nat)) (b : Nat) : inV (.int (b : Int)) (pl.map plV) = decide (some b ∈ pl) := by
  unfold inV
  induction pl with
  | nil => rfl
  | cons y r ih =>
    rw [List.map_cons, List.any_cons, ih, pl_eq]
    by_cases e : y = some b
    · simp [e]
    · have e' : ¬ some b = y := fun z => e z.symm
      simp [e, e']
theorem plD_eqv (x y : Option Nat) : PyData.eqv (plD x) (plD y) = decide (x = y) := by
  cases x with
  | none =>
    cases y with
    | none => simp [plD, PyData.eqv]
    | some q => simp [plD, PyData.eqv]
  | some p =>
    cases y with
    | none => simp [plD, PyData.eqv]
    | some q =>
      simp only [plD, PyData.eqv]
      by_cases e : p = q
      · simp [e]
      · have : ¬ ((p : Int) = (q : Int)) := fun z => e (Int.ofNat.inj z)
        simp [e, this]
theorem plD_ok (x : Option Nat) : DOk (plD x) 0 := by
  cases x with
  | none => exact DOk.none
  | some p => exact DOk.int _
theorem dp_pl {K : PySem.W.Frag} {H : Hp} (x : Option Nat) : Dp K H (plV x) (plD x) := by
  cases x with
  | none => exact .non
  | some p => exact .int _
theorem arr0_at {l : List Nat} {i : Nat} (h : i < l.length) : (arr0 l)[i]? = some (l[i], some i) := by
  unfold arr0
  rw [List.getElem?_map, List.getElem?_range h]
  show some (l.getD i 0, some i) = _
  rw [List.getD_eq_getElem?_getD, List.getElem?_eq_getElem h]
  rfl
theorem arr0_len (l : List Nat) : (arr0 l).length = l.length := by
  unfold arr0
  rw [List.length_map, List.length_range]
theorem arr0_bits (l : List Nat) : (arr0 l).map Prod.fst = l := by
  refine List.ext_getElem? fun i => ?_
  rw [List.getElem?_map]
  by_cases h : i < l.length
  · rw [arr0_at h, List.getElem?_eq_getElem h]
    rfl
  · rw [List.getElem?_eq_none (by rw [arr0_len]; omega), List.getElem?_eq_none (by omega)]
    rfl
/-! ### ends once -/
theorem ends_uniq {l : List Nat} {s t v : Nat} (h1 : (endsL l)[s]? = some v) (h2 : (endsL l)[t]? = some v) : s = t := by
  unfold endsL at h1 h2
  rw [List.getElem?_map] at h1 h2
  have so := occs_sorted l l.length
  cases e1 : (occs l l.length)[s]? with
  | none =>
    rw [e1] at h1
    cases h1
  | some a =>
    cases e2 : (occs l l.length)[t]? with
    | none =>
      rw [e2] at h2
      cases h2
    | some b =>
      rw [e1] at h1
      rw [e2] at h2
      have h1 : a + 12 = v := Option.some.inj h1
      have h2 : b + 12 = v := Option.some.inj h2
      obtain ⟨l1, g1⟩ := List.getElem?_eq_some_iff.mp e1
      obtain ⟨l2, g2⟩ := List.getElem?_eq_some_iff.mp e2
      have pw := List.pairwise_iff_getElem.mp so
      rcases Nat.lt_trichotomy s t with z | z | z
      · have := pw s t l1 l2 z
        omega
      · exact z
      · have := pw t s l2 l1 z
        omega
/-! ### what was sent, block by block -/
theorem sent_at {ws : List (List Nat)} {Q : List Nat} (h : ∀ w ∈ ws, NoMk w) {k : Nat} (hk : k + 1 < ws.length) : k + 1 < (endsL (blk ws ++ Q)).length ∧ 12 ≤ (endsL (blk ws ++ Q)).getD k 0 ∧ (endsL (blk ws ++ Q)).getD (k + 1) 0 = (endsL (blk ws ++ Q)).getD k 0 + (ws.getD (k + 1) []).length + 12 ∧ ((blk ws ++ Q).drop ((endsL (blk ws ++ Q)).getD k 0 - 12)).take ((ws.getD (k + 1) []).length + 24) = mkL ++ (ws.getD (k + 1) [] ++ mkL) := by
  obtain ⟨a1, a2⟩ := ends_blk (Q := Q) h (i := k) (by omega)
  obtain ⟨b1, b2⟩ := ends_blk (Q := Q) h (i := k + 1) hk
  have lm : mkL.length = 12 := rfl
  have t1 := blk_take (ws := ws) (i := k) (by omega)
  have t2 := blk_take (ws := ws) (i := k + 1) hk
  have l1 : (blk (ws.take (k + 1))).length = (blk (ws.take k)).length + (ws.getD k []).length + 12 := by
    rw [t1, List.length_append, List.length_append, lm]
    omega
  have l2 : (blk (ws.take (k + 1 + 1))).length = (blk (ws.take (k + 1))).length + (ws.getD (k + 1) []).length + 12 := by
    rw [t2, List.length_append, List.length_append, lm]
    omega
  refine ⟨b1, by omega, by omega, ?_⟩
  have e1 : blk ws ++ Q = (blk (ws.take k) ++ ws.getD k []) ++ ((mkL ++ (ws.getD (k + 1) [] ++ mkL)) ++ (blk (ws.drop (k + 2)) ++ Q)) := by
    have := blk_app (ws.take (k + 2)) (ws.drop (k + 2))
    rw [List.take_append_drop] at this
    rw [this, t2, t1]
    simp only [List.append_assoc]
  rw [a2, l1, show (blk (ws.take k)).length + (ws.getD k []).length + 12 - 12 = (blk (ws.take k) ++ ws.getD k []).length by rw [List.length_append]; omega, e1, List.drop_left, show (ws.getD (k + 1) []).length + 24 = (mkL ++ (ws.getD (k + 1) [] ++ mkL)).length by rw [List.length_append, List.length_append, lm]; omega, List.take_left]
/-- a block that came whole: its stretch -/
theorem came_str {ws : List (List Nat)} {Q : List Nat} {x : Ar} (h : ∀ w ∈ ws, NoMk w) {k i : Nat} (hk : k + 1 < ws.length) (ok : OkR (blk ws ++ Q) x) (e : ((x.map Prod.snd).drop i).take ((ws.getD (k + 1) []).length + 24) = (List.range ((ws.getD (k + 1) []).length + 24)).map fun j => some ((endsL (blk ws ++ Q)).getD k 0 - 12 + j)) :
    ∃ s, (endsL (x.map Prod.fst))[s]? = some (i + 12) ∧ (endsL (x.map Prod.fst))[s + 1]? = some (i + 24 + (ws.getD (k + 1) []).length) ∧ (sttL (x.map Prod.fst))[s]? = some (ws.getD (k + 1) [] ++ mkL) ∧ (x.map Prod.snd)[i + 12 + (ws.getD (k + 1) []).length]? = some (some ((endsL (blk ws ++ Q)).getD (k + 1) 0 - 12)) ∧ (x.map Prod.snd)[i]? = some (some ((endsL (blk ws ++ Q)).getD k 0 - 12)) := by
  obtain ⟨_, s2, s3, s4⟩ := sent_at (Q := Q) h hk
  have at_ : ∀ j, j < (ws.getD (k + 1) []).length + 24 → (x.map Prod.snd)[i + j]? = some (some ((endsL (blk ws ++ Q)).getD k 0 - 12 + j)) := fun j hj => by
    have e1 : (((x.map Prod.snd).drop i).take ((ws.getD (k + 1) []).length + 24))[j]? = some (some ((endsL (blk ws ++ Q)).getD k 0 - 12 + j)) := by
      rw [e, List.getElem?_map, List.getElem?_range hj]
      rfl
    rw [List.getElem?_take_of_lt hj, List.getElem?_drop] at e1
    exact e1
  rcases came_bits ok e with ⟨cb, _⟩ | cb
  · rw [s4] at cb
    have p0 := at_ 0 (by omega)
    rw [Nat.add_zero, Nat.add_zero] at p0
    have pw := at_ (12 + (ws.getD (k + 1) []).length) (by omega)
    generalize hw : ws.getD (k + 1) [] = w' at *
    have li : i < x.length := by
      have := (List.getElem?_eq_some_iff.mp p0).1
      rw [List.length_map] at this
      exact this
    generalize hB : x.map Prod.fst = B at *
    have lB : B.length = x.length := by
      rw [← hB, List.length_map]
    have nm : NoMk w' := by
      rw [← hw, List.getD_eq_getElem?_getD, List.getElem?_eq_getElem hk]
      exact h _ (List.getElem_mem hk)
    have eB : B = B.take i ++ (mkL ++ (w' ++ (mkL ++ (B.drop i).drop (w'.length + 24)))) := by
      have h1 : B.drop i = (B.drop i).take (w'.length + 24) ++ (B.drop i).drop (w'.length + 24) := (List.take_append_drop _ _).symm
      have h2 : B = B.take i ++ B.drop i := (List.take_append_drop _ _).symm
      rw [cb] at h1
      simp only [List.append_assoc] at h1
      rw [← h1, List.take_append_drop]
    have lX : (B.take i).length = i := by
      rw [List.length_take]
      omega
    obtain ⟨s, q1, q2, q3⟩ := stt_inner (X := B.take i) (Y := (B.drop i).drop (w'.length + 24)) nm
    rw [← eB, lX] at q2
    rw [← eB] at q1 q3
    obtain ⟨_, _, r3, _, _⟩ := str_at q1
    have g0 : (endsL B).getD s 0 = i + 12 := by
      rw [List.getD_eq_getElem?_getD, q2]
      rfl
    have g1 : (sttL B).getD s [] = w' ++ mkL := by
      rw [List.getD_eq_getElem?_getD, q3]
      rfl
    rw [g0, g1, List.length_append] at r3
    have r3 : w'.length + 12 = (endsL B).getD (s + 1) 0 - (i + 12) := r3
    refine ⟨s, q2, ?_, q3, ?_, p0⟩
    · rw [List.getD_eq_getElem?_getD, List.getElem?_eq_getElem q1] at r3
      have r3 : w'.length + 12 = (endsL B)[s + 1] - (i + 12) := r3
      rw [List.getElem?_eq_getElem q1]
      congr 1
      omega
    · rw [show i + 12 + w'.length = i + (12 + w'.length) by omega, pw, s3]
      congr 2
      omega
  · omega
end Fp

set_option Elab.async false
set_option linter.all false
set_option maxRecDepth 100000
set_option maxHeartbeats 4000000
/-! Books of machines and what is told of them (for k60); dict comprehensions over a list. -/
namespace Fp
open PySem L2 PyProof.Rows
/-- a dict comprehension over a list that stays -/
theorem dc_lst {K : PySem.W.Frag} {a : Addr} {xs : List V} {g : TG} {tt : TT} {tk tv : TE} {vs : List Nat} {σ : L2.St} {H1 : Hp} {D : Addr} {Qd : Hp → Prop} (I : Nat → Hp → Prop) (h0 : I 0 (upd H1 D (.dK [])))
    (hl : ∀ i G, i ≤ xs.length → I i G → SqL K G a xs)
    (hs : ∀ i x G, xs[i]? = some x → I i G → g x (wipe σ vs) G fun σ2 G2 => wipe σ2 vs = wipe σ vs ∧ tt σ2 G2 fun b G3 => if b = true then tk σ2 G3 fun y G4 => tv σ2 G4 fun z G5 => ∃ kvs k, y = kV k ∧ G5 D = some (.dK kvs) ∧ kvs.length < sizeLine ∧ I (i + 1) (upd G5 D (.dK (putK kvs k z))) else I (i + 1) G3)
    (hd : ∀ G, I xs.length G → Qd G) :
    ∃ W : Nat → Nat → Hp → Prop, (∃ m, W 0 m (upd H1 D (.dK []))) ∧ ∀ i m G, W i m G → ((Itl K a).stop i G ∧ Qd G) ∨ ((Itl K a).go i G ∧ ∃ Nx : Hp → Prop, (∀ G', Nx G' → ∃ m', m' < m ∧ W (i + 1) m' G') ∧ ∀ x G', (Itl K a).yld i G x G' → g x (wipe σ vs) G' fun σ2 G2 => wipe σ2 vs = wipe σ vs ∧ tt σ2 G2 fun b G3 => if b = true then tk σ2 G3 fun y G4 => tv σ2 G4 fun z G5 => ∃ kvs k, y = kV k ∧ G5 D = some (.dK kvs) ∧ kvs.length < sizeLine ∧ Nx (upd G5 D (.dK (putK kvs k z))) else Nx G3) := by
  refine ⟨fun i m G => (m = xs.length - i ∧ i ≤ xs.length) ∧ I i G, ⟨xs.length, ⟨rfl, Nat.zero_le _⟩, h0⟩, ?_⟩
  rintro i m G ⟨⟨rfl, le⟩, inv⟩
  have sq := hl i G le inv
  rcases Nat.lt_or_ge i xs.length with lt | ge
  · refine .inr ⟨⟨xs, xs[i], sq, List.getElem?_eq_getElem lt⟩, I (i + 1), fun G' inv' => ⟨xs.length - (i + 1), by omega, ⟨rfl, lt⟩, inv'⟩, ?_⟩
    rintro x G' ⟨rfl, at_⟩
    exact hs i x _ (at_ xs sq) inv
  · obtain rfl : i = xs.length := by omega
    exact .inl ⟨⟨xs, sq, Nat.le_refl _⟩, hd G inv⟩
/-! ### words of a page, one behind the other -/
section
variable (U S : Str)
def stepW (s : Option Str) (w : Str) : Option Str := if w ≠ U ∨ s ≠ some S then some w else s
def foldW (ws : List Str) : Option Str := ws.foldl (stepW U S) none
theorem foldW_app (ws : List Str) (w : Str) : foldW U S (ws ++ [w]) = stepW U S (foldW U S ws) w := by
  unfold foldW
  rw [List.foldl_append]
  rfl
/-- past the unsent ones, from the end -/
def stF (ws : List Str) : Nat → Nat
  | 0 => 0
  | a + 1 => if ws[a]? = some U then stF ws a else a + 1
theorem stF_le (ws : List Str) : ∀ a, stF U ws a ≤ a
  | 0 => Nat.le_refl _
  | a + 1 => by
    unfold stF
    split
    · have := stF_le ws a
      omega
    · exact Nat.le_refl _
theorem stF_app (ws : List Str) (w : Str) : ∀ a, a ≤ ws.length → stF U (ws ++ [w]) a = stF U ws a
  | 0, _ => rfl
  | a + 1, h => by
    unfold stF
    rw [List.getElem?_append_left (by omega), stF_app ws w a (by omega)]
theorem stF_not (ws : List Str) : ∀ a, stF U ws (a + 1) ≠ 0 → ws[stF U ws (a + 1) - 1]? ≠ some U
  | 0, h => by
    unfold stF at h ⊢
    split at h
    · exact absurd rfl h
    · rename_i z
      rw [if_neg z]
      exact z
  | a + 1, h => by
    unfold stF at h ⊢
    split at h
    · rename_i z
      rw [if_pos z]
      exact stF_not ws a h
    · rename_i z
      rw [if_neg z]
      exact z
def wordL (ws : List Str) : Option Str := if ws = [] then none else if stF U ws ws.length < ws.length ∧ 0 < stF U ws ws.length ∧ ws[stF U ws ws.length - 1]? = some S then some S else ws[ws.length - 1]?
theorem wordL_app (hUS : U ≠ S) (ws : List Str) (w : Str) : wordL U S (ws ++ [w]) = stepW U S (wordL U S ws) w := by
  have ne : ws ++ [w] ≠ [] := by simp
  have len : (ws ++ [w]).length = ws.length + 1 := by simp
  have last : (ws ++ [w])[ws.length]? = some w := by
    rw [List.getElem?_append_right (Nat.le_refl _), Nat.sub_self]
    rfl
  have hle := stF_le U ws ws.length
  unfold wordL
  rw [if_neg ne, len, Nat.add_sub_cancel, last]
  by_cases hw : w = U
  · -- another unsent one
    have st : stF U (ws ++ [w]) (ws.length + 1) = stF U ws ws.length := by
      show (if (ws ++ [w])[ws.length]? = some U then _ else _) = _
      rw [last, hw, if_pos rfl, stF_app U ws U ws.length (Nat.le_refl _)]
    rw [st]
    generalize hA : stF U ws ws.length = A at *
    by_cases c : 0 < A ∧ ws[A - 1]? = some S
    · have g1 : (ws ++ [w])[A - 1]? = some S := by
        rw [List.getElem?_append_left (by omega)]
        exact c.2
      have nn : ws ≠ [] := fun z => by
        rw [z] at hle
        have : A ≤ 0 := hle
        omega
      rw [if_pos ⟨by omega, c.1, g1⟩, if_neg nn]
      have old : (if A < ws.length ∧ 0 < A ∧ ws[A - 1]? = some S then some S else ws[ws.length - 1]?) = some S := by
        by_cases lt : A < ws.length
        · rw [if_pos ⟨lt, c.1, c.2⟩]
        · rw [if_neg (fun z => lt z.1)]
          have : A = ws.length := by omega
          rw [← this]
          exact c.2
      rw [old]
      unfold stepW
      rw [if_neg (fun z => by
        rcases z with z | z
        · exact z hw
        · exact z rfl)]
    · have g1 : ¬ (A < ws.length + 1 ∧ 0 < A ∧ (ws ++ [w])[A - 1]? = some S) := fun z => c ⟨z.2.1, by
        have := z.2.2
        rw [List.getElem?_append_left (by omega)] at this
        exact this⟩
      rw [if_neg g1]
      have old : (if ws = [] then none else if A < ws.length ∧ 0 < A ∧ ws[A - 1]? = some S then some S else ws[ws.length - 1]?) ≠ some S := fun z => by
        by_cases nn : ws = []
        · rw [if_pos nn] at z
          cases z
        · rw [if_neg nn, if_neg (fun y => c ⟨y.2.1, y.2.2⟩)] at z
          -- the last one is unsure: nothing was gone past
          obtain ⟨n, hn⟩ : ∃ n, ws.length = n + 1 := ⟨ws.length - 1, by have := List.length_pos_iff.mpr nn; omega⟩
          have : A = ws.length := by
            rw [← hA, hn]
            unfold stF
            rw [hn, Nat.add_sub_cancel] at z
            rw [z, if_neg (fun y => hUS (Option.some.inj y).symm)]
          exact c ⟨by omega, by rw [this]; exact z⟩
      unfold stepW
      rw [if_pos (.inr old)]
  · have st : stF U (ws ++ [w]) (ws.length + 1) = ws.length + 1 := by
      show (if (ws ++ [w])[ws.length]? = some U then _ else _) = _
      rw [last, if_neg (fun y => hw (Option.some.inj y))]
    rw [st, if_neg (fun z => absurd z.1 (Nat.lt_irrefl _))]
    unfold stepW
    rw [if_pos (.inl hw)]
theorem word_eq (hUS : U ≠ S) (ws : List Str) : wordL U S ws = foldW U S ws := by
  have : ∀ n (ws : List Str), ws.length = n → wordL U S ws = foldW U S ws := by
    intro n
    induction n with
    | zero =>
      intro ws h
      have : ws = [] := List.length_eq_zero_iff.mp h
      rw [this]
      rfl
    | succ n ih =>
      intro ws h
      have ne : ws ≠ [] := fun z => by
        rw [z] at h
        cases h
      have e := (List.dropLast_concat_getLast ne).symm
      rw [e, wordL_app U S hUS, foldW_app, ih _ (by rw [List.length_dropLast]; omega)]
  exact this _ ws rfl
end
/-! ### books -/
inductive Rw where
  | kept (n : Nat) (nm : List Nat) (es : List (List Nat))
  | had (nm : List Nat) (n : Nat) (g : List Nat)
  | told (n : Nat) (nm : List Nat) (wd : Str)
def wUnsent : Str := Str.ofString "unsent"
def wUnsure : Str := Str.ofString "unsure"
def keptO (o : List Nat) : Rw → Option Nat
  | .kept n nm _ => if nm = o then some n else none
  | _ => none
def toldO (o : List Nat) (n : Nat) : Rw → Option Str
  | .told k nm wd => if k = n ∧ nm = o then some wd else none
  | _ => none
def hadO (o : List Nat) (n : Nat) : Rw → Bool
  | .had nm k _ => decide (nm = o ∧ k = n)
  | _ => false
def keptNs (o : List Nat) (b : List Rw) : List Nat := b.filterMap (keptO o)
def toldWs (o : List Nat) (n : Nat) (b : List Rw) : List Str := b.filterMap (toldO o n)
def hadB (o : List Nat) (n : Nat) (b : List Rw) : Bool := b.any (hadO o n)
def wordW (o : List Nat) (n : Nat) (b : List Rw) : Str := (foldW wUnsent wUnsure (toldWs o n b)).getD (Str.ofString "waiting")
def verd (w : Str) (h : Bool) : Str := if w = wUnsure then Str.ofString "open" else if (decide (w = Str.ofString "good") || decide (w = Str.ofString "rough")) = h then Str.ofString "same" else Str.ofString "apart"
def outO (one o : List Nat) (b far : List Rw) (n : Nat) : Nat × Str × Str := (n, wordW o n b, verd (wordW o n b) (hadB one n far))
def stO (one o : List Nat) (b far : List Rw) : List (Nat × Str × Str) := (keptNs o b).map (outO one o b far)
def nmOf : Rw → List Nat
  | .kept _ nm _ => nm
  | .had nm _ _ => nm
  | .told _ nm _ => nm
theorem keptO_no {o : List Nat} {r : Rw} (h : nmOf r ≠ o) : keptO o r = none := by
  cases r with
  | kept n nm es => exact if_neg h
  | had nm n g => rfl
  | told n nm wd => rfl
theorem toldO_no {o : List Nat} {n : Nat} {r : Rw} (h : nmOf r ≠ o) : toldO o n r = none := by
  cases r with
  | kept n nm es => rfl
  | had nm n g => rfl
  | told k nm wd => exact if_neg fun z => h z.2
theorem hadO_no {o : List Nat} {n : Nat} {r : Rw} (h : nmOf r ≠ o) : hadO o n r = false := by
  cases r with
  | kept n nm es => rfl
  | had nm k g => exact decide_eq_false fun z => h z.1
  | told k nm wd => rfl
/-- a row of another machine changes nothing -/
theorem stO_more {one o : List Nat} {b far : List Rw} {p q : Nat} {r t : Rw} (hr : nmOf r ≠ o) (ht : nmOf t ≠ one) : stO one o (b.take p ++ r :: b.drop p) (far.take q ++ t :: far.drop q) = stO one o b far := by
  have k1 : keptNs o (b.take p ++ r :: b.drop p) = keptNs o b := by
    unfold keptNs
    rw [List.filterMap_append, List.filterMap_cons, keptO_no hr, ← List.filterMap_append, List.take_append_drop]
  have k2 : ∀ n, toldWs o n (b.take p ++ r :: b.drop p) = toldWs o n b := fun n => by
    unfold toldWs
    rw [List.filterMap_append, List.filterMap_cons, toldO_no hr, ← List.filterMap_append, List.take_append_drop]
  have k3 : ∀ n, hadB one n (far.take q ++ t :: far.drop q) = hadB one n far := fun n => by
    unfold hadB
    rw [List.any_append, List.any_cons, hadO_no ht, Bool.false_or, ← List.any_append, List.take_append_drop]
  unfold stO
  rw [k1]
  refine List.map_congr_left fun n _ => ?_
  unfold outO wordW
  rw [k2, k3]
/-! ### books in the heap -/
def RwAt (H : Hp) (v : V) : Rw → Prop
  | .kept n nm es => ∃ t e, v = .ref t ∧ H t = some (.tup [.str (Str.ofString "kept"), .int (n : Int), .str (sOf nm), .ref e]) ∧ H e = some (.tup (es.map sV))
  | .had nm n g => ∃ t k e, v = .ref t ∧ H t = some (.tup [.str (Str.ofString "had"), .ref k, .ref e]) ∧ H k = some (.tup [.str (sOf nm), .int (n : Int)]) ∧ H e = some (.tup (g.map fun (i : Nat) => V.int (i : Int)))
  | .told n nm wd => ∃ t, v = .ref t ∧ H t = some (.tup [.str (Str.ofString "told"), .int (n : Int), .str (sOf nm), .str wd])
def KeepsT (H H' : Hp) : Prop := ∀ (a : Addr) (xs : List V), H a = some (.tup xs) → H' a = some (.tup xs)
theorem KeepsT.of {H H' : Hp} (h : Same H H') : KeepsT H H' := fun _ _ e => h _ _ e
theorem KeepsT.bx {b : Addr} {H H' : Hp} (hb : BagAt H b) (h : Bx b H H') : KeepsT H H' := fun _ _ e => h.2 _ _ (hb.tup e) e
theorem KeepsT.trans {H H1 H2 : Hp} (h : KeepsT H H1) (k : KeepsT H1 H2) : KeepsT H H2 := fun a xs e => k a xs (h a xs e)
theorem RwAt.mono {H H' : Hp} {v : V} {r : Rw} (k : KeepsT H H') (h : RwAt H v r) : RwAt H' v r := by
  cases r with
  | kept n nm es =>
    obtain ⟨t, e, h1, h2, h3⟩ := h
    exact ⟨t, e, h1, k _ _ h2, k _ _ h3⟩
  | had nm n g =>
    obtain ⟨t, q, e, h1, h2, h3, h4⟩ := h
    exact ⟨t, q, e, h1, k _ _ h2, k _ _ h3, k _ _ h4⟩
  | told n nm wd =>
    obtain ⟨t, h1, h2⟩ := h
    exact ⟨t, h1, k _ _ h2⟩
def BkAt (H : Hp) : List V → List Rw → Prop
  | [], [] => True
  | v :: vs, r :: rs => RwAt H v r ∧ BkAt H vs rs
  | _, _ => False
theorem BkAt.len {H : Hp} : ∀ {vs : List V} {rs : List Rw}, BkAt H vs rs → vs.length = rs.length
  | [], [], _ => rfl
  | _ :: _, _ :: _, ⟨_, r⟩ => congrArg (· + 1) (BkAt.len r)
  | [], _ :: _, h => h.elim
  | _ :: _, [], h => h.elim
theorem BkAt.mono {H H' : Hp} (k : KeepsT H H') : ∀ {vs : List V} {rs : List Rw}, BkAt H vs rs → BkAt H' vs rs
  | [], [], _ => trivial
  | _ :: _, _ :: _, ⟨h, r⟩ => ⟨h.mono k, BkAt.mono k r⟩
  | [], _ :: _, h => h.elim
  | _ :: _, [], h => h.elim
theorem BkAt.getV {H : Hp} : ∀ {vs : List V} {rs : List Rw} {k : Nat} {v : V}, BkAt H vs rs → vs[k]? = some v → ∃ r, rs[k]? = some r ∧ RwAt H v r
  | [], [], _, _, _, h => by cases h
  | _ :: _, r :: _, 0, v, ⟨h, _⟩, hk => by
    cases hk
    exact ⟨r, rfl, h⟩
  | _ :: _, _ :: _, k + 1, v, ⟨_, r⟩, hk => BkAt.getV (k := k) r hk
  | [], _ :: _, _, _, h, _ => h.elim
  | _ :: _, [], _, _, h, _ => h.elim
theorem BkAt.app {H : Hp} {ws : List V} {ts : List Rw} (k : BkAt H ws ts) : ∀ {vs : List V} {rs : List Rw}, BkAt H vs rs → BkAt H (vs ++ ws) (rs ++ ts)
  | [], [], _ => k
  | _ :: _, _ :: _, h => ⟨h.1, BkAt.app k h.2⟩
  | [], _ :: _, h => h.elim
  | _ :: _, [], h => h.elim
theorem BkAt.take {H : Hp} : ∀ {vs : List V} {rs : List Rw} (n : Nat), BkAt H vs rs → BkAt H (vs.take n) (rs.take n)
  | [], [], n, _ => by rw [List.take_nil, List.take_nil]; trivial
  | _ :: _, _ :: _, 0, _ => trivial
  | _ :: _, _ :: _, n + 1, h => ⟨h.1, BkAt.take n h.2⟩
  | [], _ :: _, _, h => h.elim
  | _ :: _, [], _, h => h.elim
theorem BkAt.drop {H : Hp} : ∀ {vs : List V} {rs : List Rw} (n : Nat), BkAt H vs rs → BkAt H (vs.drop n) (rs.drop n)
  | [], [], n, _ => by rw [List.drop_nil, List.drop_nil]; trivial
  | _ :: _, _ :: _, 0, h => h
  | _ :: _, _ :: _, n + 1, h => BkAt.drop n h.2
  | [], _ :: _, _, h => h.elim
  | _ :: _, [], _, h => h.elim
/-! ### books as data -/
def RwOk : Rw → Prop
  | .kept _ nm es => Codes nm ∧ ∀ e ∈ es, Codes e
  | .had nm _ _ => Codes nm
  | .told _ nm wd => Codes nm ∧ PyData.strOk wd = true
def rwD : Rw → PyData
  | .kept n nm es => .tuple [.str (Str.ofString "kept"), .int (n : Int), .str (sOf nm), .tuple (es.map fun l => .str (sOf l))]
  | .had nm n g => .tuple [.str (Str.ofString "had"), .tuple [.str (sOf nm), .int (n : Int)], .tuple (g.map fun (i : Nat) => PyData.int (i : Int))]
  | .told n nm wd => .tuple [.str (Str.ofString "told"), .int (n : Int), .str (sOf nm), .str wd]
theorem dp_rw {K : PySem.W.Frag} {H : Hp} {v : V} {r : Rw} (h : RwAt H v r) : Dp K H v (rwD r) := by
  cases r with
  | kept n nm es =>
    obtain ⟨t, e, rfl, h2, h3⟩ := h
    exact .tup (.inl (.inl h2)) (.cons (.str _) (.cons (.int _) (.cons (.str _) (.cons (.tup (.inl (.inl h3)) (dp_all fun x _ => .str _)) .nil))))
  | had nm n g =>
    obtain ⟨t, q, e, rfl, h2, h3, h4⟩ := h
    exact .tup (.inl (.inl h2)) (.cons (.str _) (.cons (.tup (.inl (.inl h3)) (.cons (.str _) (.cons (.int _) .nil))) (.cons (.tup (.inl (.inl h4)) (dp_all fun x _ => .int _)) .nil)))
  | told n nm wd =>
    obtain ⟨t, rfl, h2⟩ := h
    exact .tup (.inl (.inl h2)) (.cons (.str _) (.cons (.int _) (.cons (.str _) (.cons (.str _) .nil))))
theorem dp_bk {K : PySem.W.Frag} {H : Hp} : ∀ {vs : List V} {rs : List Rw}, BkAt H vs rs → DpAll K H vs (rs.map rwD)
  | [], [], _ => .nil
  | _ :: _, _ :: _, ⟨h, r⟩ => .cons (dp_rw h) (dp_bk r)
  | [], _ :: _, h => h.elim
  | _ :: _, [], h => h.elim
/-- a tuple of a few parts -/
theorem DOk.nil (n : Nat) : PyData.canLayAll0 [] = true ∧ PyData.depthAll [] ≤ n := ⟨by simp only [PyData.canLayAll0], by simp only [PyData.depthAll]; omega⟩
theorem DOk.cons {d : PyData} {ds : List PyData} {n : Nat} (h : DOk d n) (k : PyData.canLayAll0 ds = true ∧ PyData.depthAll ds ≤ n) : PyData.canLayAll0 (d :: ds) = true ∧ PyData.depthAll (d :: ds) ≤ n := by
  refine ⟨?_, ?_⟩
  · have h1 := h.1
    have h2 := k.1
    simp only [PyData.canLayAll0, h1, h2, Bool.and_true]
  · have h1 := h.2
    have h2 := k.2
    simp only [PyData.depthAll]
    omega
theorem DOk.tup {ds : List PyData} {n : Nat} (k : PyData.canLayAll0 ds = true ∧ PyData.depthAll ds ≤ n) : DOk (.tuple ds) (n + 1) := by
  refine ⟨?_, ?_⟩
  · have h1 := k.1
    simp only [PyData.canLay0, h1]
  · have h2 := k.2
    simp only [PyData.depth]
    omega
theorem word_ok3 : PyData.strOk (Str.ofString "kept") = true ∧ PyData.strOk (Str.ofString "had") = true ∧ PyData.strOk (Str.ofString "told") = true := by decide +kernel
theorem rwD_ok {r : Rw} (h : RwOk r) : DOk (rwD r) 2 := by
  cases r with
  | kept n nm es =>
    exact DOk.tup (DOk.cons ((DOk.word word_ok3.1).mono (by decide)) (DOk.cons ((DOk.int _).mono (by decide)) (DOk.cons ((DOk.str h.1).mono (by decide)) (DOk.cons ((DOk.tuple (f := fun l => PyData.str (sOf l)) (n := 0) fun e he => DOk.str (h.2 e he)).mono (by decide)) (DOk.nil 1)))))
  | had nm n g =>
    exact DOk.tup (DOk.cons ((DOk.word word_ok3.2.1).mono (by decide)) (DOk.cons (DOk.tup (DOk.cons (DOk.str h) (DOk.cons (DOk.int _) (DOk.nil 0)))) (DOk.cons (DOk.tuple (f := fun (i : Nat) => PyData.int (i : Int)) (n := 0) fun e he => DOk.int _) (DOk.nil 1))))
  | told n nm wd =>
    exact DOk.tup (DOk.cons ((DOk.word word_ok3.2.2).mono (by decide)) (DOk.cons ((DOk.int _).mono (by decide)) (DOk.cons ((DOk.str h.1).mono (by decide)) (DOk.cons ((DOk.word h.2).mono (by decide)) (DOk.nil 1)))))
/-! ### what is told, as values and as data -/
def otV (x : Nat × Str × Str) : List V := [.int (x.1 : Int), .str x.2.1, .str x.2.2]
def otD (x : Nat × Str × Str) : List PyData := [.int (x.1 : Int), .str x.2.1, .str x.2.2]
theorem dp_ot {K : PySem.W.Frag} {H : Hp} {vs : List V} {xs : List (Nat × Str × Str)} (h : TpsAt otV H vs xs) : DpAll K H vs (xs.map fun x => .tuple (otD x)) := dp_tups (f := otD) (fun x => .cons (.int _) (.cons (.str _) (.cons (.str _) .nil))) h
theorem ot_ok {xs : List (Nat × Str × Str)} (h : ∀ x ∈ xs, PyData.strOk x.2.1 = true ∧ PyData.strOk x.2.2 = true) : DOk (.list (xs.map fun x => .tuple (otD x))) 2 := DOk.list (n := 1) fun x hx => DOk.tup (DOk.cons (DOk.int _) (DOk.cons (DOk.word (h x hx).1) (DOk.cons (DOk.word (h x hx).2) (DOk.nil 0))))
theorem verd_ok (w : Str) (b : Bool) : PyData.strOk (verd w b) = true := by
  have h : PyData.strOk (Str.ofString "open") = true ∧ PyData.strOk (Str.ofString "same") = true ∧ PyData.strOk (Str.ofString "apart") = true := by decide +kernel
  unfold verd
  split
  · exact h.1
  · split
    · exact h.2.1
    · exact h.2.2
theorem foldW_mem {U S : Str} : ∀ (ws : List Str) (s : Option Str) {w : Str}, ws.foldl (stepW U S) s = some w → w ∈ ws ∨ s = some w
  | [], s, w, h => .inr h
  | v :: r, s, w, h => by
    rcases foldW_mem r _ (show r.foldl (stepW U S) (stepW U S s v) = some w from h) with z | z
    · exact .inl (List.mem_cons_of_mem _ z)
    · unfold stepW at z
      split at z
      · exact .inl (by rw [← Option.some.inj z]; exact List.mem_cons_self ..)
      · exact .inr z
theorem stO_ok {one o : List Nat} {b far : List Rw} (h : ∀ r ∈ b, RwOk r) : ∀ x ∈ stO one o b far, PyData.strOk x.2.1 = true ∧ PyData.strOk x.2.2 = true := fun x hx => by
  obtain ⟨n, _, rfl⟩ := List.mem_map.mp hx
  refine ⟨?_, verd_ok _ _⟩
  show PyData.strOk (wordW o n b) = true
  unfold wordW
  cases e : foldW wUnsent wUnsure (toldWs o n b) with
  | none =>
    show PyData.strOk (Str.ofString "waiting") = true
    decide +kernel
  | some wd =>
    rcases foldW_mem _ _ e with z | z
    · unfold toldWs at z
      obtain ⟨r, hr, er⟩ := List.mem_filterMap.mp z
      have ok := h r hr
      cases r with
      | kept n nm es => cases er
      | had nm n g => cases er
      | told k nm w2 =>
        unfold toldO at er
        simp only at er
        split at er
        · rw [← Option.some.inj er]
          exact ok.2
        · cases er
    · cases z
end Fp

set_option Elab.async false
set_option linter.all false
set_option maxRecDepth 100000
set_option maxHeartbeats 4000000
set_option pp.maxSteps 3000
namespace K60
open PySem PySem.Spec PyProof.Rows L2 Fp
def topS (i : Nat) : Stmt := PySem.Challenge.pw_farpage_k60_stories_of_books.main.body.getD i (.Pass ⟨0, 0, 0, 0⟩)
abbrev s_stories : Stmt := topS 1
abbrev N_stories : List Str := ["one", "other", "book", "far", "words", "had", "told", "row", "number", "word"]
abbrev P_stories : List Str := ["one", "other", "book", "far"]
theorem sc_stories : FnScope N_stories P_stories (defScope s_stories) := ⟨rfl, rfl, rfl, by decide +kernel, rfl, by decide +kernel, by decide +kernel⟩
abbrev s_told_words : Stmt := topS 2
abbrev N_told_words : List Str := ["other", "book", "words", "row", "number", "word"]
abbrev P_told_words : List Str := ["other", "book"]
theorem sc_told_words : FnScope N_told_words P_told_words (defScope s_told_words) := ⟨rfl, rfl, rfl, by decide +kernel, rfl, by decide +kernel, by decide +kernel⟩
abbrev s_had_numbers : Stmt := topS 3
abbrev N_had_numbers : List Str := ["one", "far", "row"]
abbrev P_had_numbers : List Str := ["one", "far"]
theorem sc_had_numbers : FnScope N_had_numbers P_had_numbers (defScope s_had_numbers) := ⟨rfl, rfl, rfl, by decide +kernel, rfl, by decide +kernel, by decide +kernel⟩
abbrev s_verdict_on : Stmt := topS 4
abbrev N_verdict_on : List Str := ["word", "was_had"]
abbrev P_verdict_on : List Str := ["word", "was_had"]
theorem sc_verdict_on : FnScope N_verdict_on P_verdict_on (defScope s_verdict_on) := ⟨rfl, rfl, rfl, by decide +kernel, rfl, by decide +kernel, by decide +kernel⟩
abbrev s_bag : Stmt := topS 6
abbrev N_bag : List Str := ["_law_script", "_law_at", "_law_cell", "_law_great"]
abbrev P_bag : List Str := ["_law_script", "_law_at"]
theorem sc_bag : FnScope N_bag P_bag (defScope s_bag) := ⟨rfl, rfl, rfl, by decide +kernel, rfl, by decide +kernel, by decide +kernel⟩
abbrev s_draw : Stmt := topS 7
abbrev N_draw : List Str := ["_law_bag_here", "_law_many", "_law_digit"]
abbrev P_draw : List Str := ["_law_bag_here", "_law_many"]
theorem sc_draw : FnScope N_draw P_draw (defScope s_draw) := ⟨rfl, rfl, rfl, by decide +kernel, rfl, by decide +kernel, by decide +kernel⟩
abbrev s_names_drawn : Stmt := topS 8
abbrev N_names_drawn : List Str := ["_law_bag_here", "_law_many", "_law_letters", "_law_first", "_law_found", "_law_k", "_law_name", "_law_turn"]
abbrev P_names_drawn : List Str := ["_law_bag_here", "_law_many"]
theorem sc_names_drawn : FnScope N_names_drawn P_names_drawn (defScope s_names_drawn) := ⟨rfl, rfl, rfl, by decide +kernel, rfl, by decide +kernel, by decide +kernel⟩
abbrev s_number : Stmt := topS 9
abbrev N_number : List Str := ["_law_bag_here"]
abbrev P_number : List Str := ["_law_bag_here"]
theorem sc_number : FnScope N_number P_number (defScope s_number) := ⟨rfl, rfl, rfl, by decide +kernel, rfl, by decide +kernel, by decide +kernel⟩
abbrev s_book : Stmt := topS 10
abbrev N_book : List Str := ["_law_bag_here", "_law_names", "_law_words", "_law_found", "_law_turn", "_law_way", "_law_name", "_law_number_here"]
abbrev P_book : List Str := ["_law_bag_here", "_law_names"]
theorem sc_book : FnScope N_book P_book (defScope s_book) := ⟨rfl, rfl, rfl, by decide +kernel, rfl, by decide +kernel, by decide +kernel⟩
abbrev s_word : Stmt := topS 11
abbrev N_word : List Str := ["_law_book_here", "_law_number_here", "_law_end", "_law_words", "_law_ahead", "_law_row"]
abbrev P_word : List Str := ["_law_book_here", "_law_number_here", "_law_end"]
theorem sc_word : FnScope N_word P_word (defScope s_word) := ⟨rfl, rfl, rfl, by decide +kernel, rfl, by decide +kernel, by decide +kernel⟩
abbrev s_verdict : Stmt := topS 12
abbrev N_verdict : List Str := ["_law_word_here", "_law_stands"]
abbrev P_verdict : List Str := ["_law_word_here", "_law_stands"]
theorem sc_verdict : FnScope N_verdict P_verdict (defScope s_verdict) := ⟨rfl, rfl, rfl, by decide +kernel, rfl, by decide +kernel, by decide +kernel⟩
abbrev s_due : Stmt := topS 13
abbrev N_due : List Str := ["_law_one", "_law_other", "_law_book_here", "_law_far", "_law_found", "_law_row", "_law_word_here", "_law_stands", "_law_more_here"]
abbrev P_due : List Str := ["_law_one", "_law_other", "_law_book_here", "_law_far"]
theorem sc_due : FnScope N_due P_due (defScope s_due) := ⟨rfl, rfl, rfl, by decide +kernel, rfl, by decide +kernel, by decide +kernel⟩
abbrev s_more : Stmt := topS 14
abbrev N_more : List Str := ["_law_bag_here", "_law_book_here", "_law_strange", "_law_place", "_law_number_here", "_law_row"]
abbrev P_more : List Str := ["_law_bag_here", "_law_book_here", "_law_strange"]
theorem sc_more : FnScope N_more P_more (defScope s_more) := ⟨rfl, rfl, rfl, by decide +kernel, rfl, by decide +kernel, by decide +kernel⟩
abbrev s_law : Stmt := topS 15
abbrev N_law : List Str := ["_law_script", "_law_k", "_law_bag_here", "_law_names", "_law_one", "_law_other", "_law_strange", "_law_book_here", "_law_far", "_law_due_here", "_law_handed", "_law_beside", "_law_found"]
abbrev P_law : List Str := ["_law_script"]
theorem sc_law : FnScope N_law P_law (defScope s_law) := ⟨rfl, rfl, rfl, by decide +kernel, rfl, by decide +kernel, by decide +kernel⟩
structure Ad where
  a_stories : Addr
  d_stories : FuncData
  a_told_words : Addr
  d_told_words : FuncData
  a_had_numbers : Addr
  d_had_numbers : FuncData
  a_verdict_on : Addr
  d_verdict_on : FuncData
  a_bag : Addr
  d_bag : FuncData
  a_draw : Addr
  d_draw : FuncData
  a_names_drawn : Addr
  d_names_drawn : FuncData
  a_number : Addr
  d_number : FuncData
  a_book : Addr
  d_book : FuncData
  a_word : Addr
  d_word : FuncData
  a_verdict : Addr
  d_verdict : FuncData
  a_due : Addr
  d_due : FuncData
  a_more : Addr
  d_more : FuncData
  a_law : Addr
  d_law : FuncData
structure Txt (w : World) (K : PySem.W.Frag) (mg : Str → Option Value) (base : Heap) (A : Ad) : Prop where
  F_stories : Fun K "stories" "stories" s_stories A.a_stories A.d_stories
  b_stories : Binds K A.d_stories P_stories []
  g_stories : mg "stories" = some (.ref A.a_stories)
  F_told_words : Fun K "told_words" "told_words" s_told_words A.a_told_words A.d_told_words
  b_told_words : Binds K A.d_told_words P_told_words []
  g_told_words : mg "told_words" = some (.ref A.a_told_words)
  F_had_numbers : Fun K "had_numbers" "had_numbers" s_had_numbers A.a_had_numbers A.d_had_numbers
  b_had_numbers : Binds K A.d_had_numbers P_had_numbers []
  g_had_numbers : mg "had_numbers" = some (.ref A.a_had_numbers)
  F_verdict_on : Fun K "verdict_on" "verdict_on" s_verdict_on A.a_verdict_on A.d_verdict_on
  b_verdict_on : Binds K A.d_verdict_on P_verdict_on []
  g_verdict_on : mg "verdict_on" = some (.ref A.a_verdict_on)
  F_bag : Fun K "_law_bag" "_law_bag" s_bag A.a_bag A.d_bag
  b_bag : Binds K A.d_bag P_bag []
  g_bag : mg "_law_bag" = some (.ref A.a_bag)
  F_draw : Fun K "_law_draw" "_law_draw" s_draw A.a_draw A.d_draw
  b_draw : Binds K A.d_draw P_draw []
  g_draw : mg "_law_draw" = some (.ref A.a_draw)
  F_names_drawn : Fun K "_law_names_drawn" "_law_names_drawn" s_names_drawn A.a_names_drawn A.d_names_drawn
  b_names_drawn : Binds K A.d_names_drawn P_names_drawn []
  g_names_drawn : mg "_law_names_drawn" = some (.ref A.a_names_drawn)
  F_number : Fun K "_law_number" "_law_number" s_number A.a_number A.d_number
  b_number : Binds K A.d_number P_number []
  g_number : mg "_law_number" = some (.ref A.a_number)
  F_book : Fun K "_law_book" "_law_book" s_book A.a_book A.d_book
  b_book : Binds K A.d_book P_book []
  g_book : mg "_law_book" = some (.ref A.a_book)
  F_word : Fun K "_law_word" "_law_word" s_word A.a_word A.d_word
  b_word : Binds K A.d_word P_word []
  g_word : mg "_law_word" = some (.ref A.a_word)
  F_verdict : Fun K "_law_verdict" "_law_verdict" s_verdict A.a_verdict A.d_verdict
  b_verdict : Binds K A.d_verdict P_verdict []
  g_verdict : mg "_law_verdict" = some (.ref A.a_verdict)
  F_due : Fun K "_law_due" "_law_due" s_due A.a_due A.d_due
  b_due : Binds K A.d_due P_due []
  g_due : mg "_law_due" = some (.ref A.a_due)
  F_more : Fun K "_law_more" "_law_more" s_more A.a_more A.d_more
  b_more : Binds K A.d_more P_more []
  g_more : mg "_law_more" = some (.ref A.a_more)
  F_law : Fun K "law" "law" s_law A.a_law A.d_law
  g_law : mg "law" = some (.ref A.a_law)
  z_abs : mg "abs" = none
  z_int : mg "int" = none
  z_isinstance : mg "isinstance" = none
  z_len : mg "len" = none
  z_list : mg "list" = none
  z_max : mg "max" = none
  z_min : mg "min" = none
  z_range : mg "range" = none
  z_tuple : mg "tuple" = none
section
variable {P : Program} {w : World} {K : PySem.W.Frag} {mg : Str → Option Value} {base : Heap}
def spBag (K : PySem.W.Frag) : Sp := fun vs H Q _ => ∃ (a : Addr) (ns : List Int) (k : Int), vs = [.ref a, .int k] ∧ SqL K H a (ns.map V.int) ∧ 0 ≤ k ∧ k ≤ 1000 ∧
  ∀ p g s, H p = none → 0 ≤ g → 0 ≤ s → s < 1000000000000 → Q (.ref p) (upd H p (.lst [.int g, .int s]))
theorem ok_bag {A : Ad} (T : Txt w K mg base A) : FnOk P w K mg base CX0 1 A.a_bag A.d_bag P_bag (spBag K) := by
  refine T.F_bag.ok sc_bag (fun vs H Q E h => ?_) (fun cdv Ar outer s H vs Q E hr h => ?_)
  · obtain ⟨a, ns, k, rfl, _⟩ := h
    rfl
  · obtain ⟨a, ns, k, rfl, hS, k0, k1, q⟩ := h
    refine ⟨_, (pss_cons (ps_set (i := 2) sc_bag.nd rfl (Or.inl rfl) pe_int)
      (pss_cons (ps_if (pt_cmpR op_lt (pv 1) (pe_callB (r := fun xs H Q => ∃ p ys, xs = [.ref p] ∧ (SqL K H p ys ∨ SqT K H p ys) ∧ Q (.int ys.length) H) call_len_seq (by rfl) T.z_len PySem.boot_len (pa_cons (pv 0) pa_nil)) (nomark _))
      (pss_one (ps_set (i := 2) sc_bag.nd rfl (Or.inl rfl) (pe_ix (r := rIxL K) ix_list (pv 0) (pv 1) (fun _ _ => rfl)))) pss_nil)
      (pss_cons (ps_set (i := 3) sc_bag.nd rfl (Or.inl rfl) pe_int)
      (pss_cons (ps_if (pt_cmpR op_ge (pe_callB call_abs (by rfl) T.z_abs (by decide +kernel) (pa_cons (pv 2) pa_nil)) (pe_op op_pow pe_int pe_int) (nomark _))
      (pss_one (ps_set (i := 3) sc_bag.nd rfl (Or.inl rfl) (pe_callB call_abs (by rfl) T.z_abs (by decide +kernel) (pa_cons (pv 2) pa_nil)))) pss_nil)
      (pss_one (ps_ret (pe_lst (pa_cons (pv 3) (pa_cons (pe_op op_add (pe_op op_add (pe_op op_mul (pe_op op_mod (pv 2) pe_int) pe_int) (pe_op op_mul pe_int (pv 1))) pe_int) pa_nil))))))))), ?_⟩
    have fin : ∀ (c g : Int), 0 ≤ g → tSeq (tIfS (tTest (tOp (rI0 fun i j => .bl (decide (j ≤ i))) (tCB (fun xs H Q => ∃ i, xs = [.int i] ∧ Q (.int (if i < 0 then -i else i)) H) (tCons (tVar 2) tNil)) (tOp (rI CPow fun i j => .int (i ^ j.toNat)) (tC (.int 10)) (tC (.int 18))))) (tAsg (tCB (fun xs H Q => ∃ i, xs = [.int i] ∧ Q (.int (if i < 0 then -i else i)) H) (tCons (tVar 2) tNil)) (gName 3)) tNext)
        (tRet (tLst (tCons (tVar 3) (tCons (tOp (rI0 fun i j => .int (i + j)) (tOp (rI0 fun i j => .int (i + j)) (tOp (rI CMul fun i j => .int (i * j)) (tOp (rI (fun _ j => 0 < j) fun i j => .int (i % j)) (tVar 2) (tC (.int 1000000007))) (tC (.int 7))) (tOp (rI CMul fun i j => .int (i * j)) (tC (.int 1013)) (tVar 1))) (tC (.int 5))) tNil)))) { nx := fun _ H' => Q .non H', rt := Q } [some (.ref a), some (.int k), some (.int c), some (.int g)] H := by
      intro c g g0
      have fin2 : ∀ (g : Int), 0 ≤ g → tRet (tLst (tCons (tVar 3) (tCons (tOp (rI0 fun i j => .int (i + j)) (tOp (rI0 fun i j => .int (i + j)) (tOp (rI CMul fun i j => .int (i * j)) (tOp (rI (fun _ j => 0 < j) fun i j => .int (i % j)) (tVar 2) (tC (.int 1000000007))) (tC (.int 7))) (tOp (rI CMul fun i j => .int (i * j)) (tC (.int 1013)) (tVar 1))) (tC (.int 5))) tNil))) { nx := fun _ H' => Q .non H', rt := Q } [some (.ref a), some (.int k), some (.int c), some (.int g)] H := by
        intro g g0
        have m0 := Int.emod_nonneg c (show (1000000007 : Int) ≠ 0 by decide)
        have m1 := Int.emod_lt_of_pos c (show (0 : Int) < 1000000007 by decide)
        refine ⟨_, rfl, _, rfl, _, _, rfl, rfl, (by show (0 : Int) < 1000000007; decide), _, _, rfl, rfl, .inr ⟨by decide, by decide⟩, _, rfl, _, _, rfl, rfl, .inl ⟨by decide, by decide⟩, _, _, rfl, rfl, _, _, rfl, rfl, (by show 2 ≤ sizeLine; decide), fun p hp => ?_⟩
        exact q p g _ hp g0 (by omega) (by omega)
      refine ⟨_, rfl, _, rfl, _, _, rfl, rfl, ⟨by decide, by decide, by decide⟩, _, _, rfl, rfl, _, rfl, ite2 (fun e => ?_) (fun e => ?_)⟩
      · refine ⟨_, rfl, _, rfl, fin2 _ ?_⟩
        split <;> omega
      · exact fin2 g g0
    refine ⟨_, rfl, _, rfl, _, _, rfl, .inl hS, _, _, rfl, rfl, _, rfl, ite2 (fun e => ?_) (fun e => ?_)⟩
    · have lt : k < ((ns.map V.int).length : Int) := of_decide_eq_true e
      obtain ⟨j, rfl⟩ := Int.eq_ofNat_of_zero_le k0
      have hj : j < ns.length := by
        rw [List.length_map] at lt
        omega
      have g : (ns.map V.int)[j]? = some (.int ns[j]) := by
        rw [List.getElem?_map, List.getElem?_eq_getElem hj]
        rfl
      refine ⟨_, rfl, _, rfl, _, _, _, _, rfl, rfl, hS, atI_nat g, ?_⟩
      exact fin _ 0 (Int.le_refl _)
    · exact fin 0 0 (Int.le_refl _)
def spDraw : Sp := fun vs H Q _ => ∃ (b : Addr) (m : Int), vs = [.ref b, .int m] ∧ BagAt H b ∧ 0 < m ∧ m < 1000000 ∧
  ∀ (d : Int) (H' : Hp), 0 ≤ d → d < m → Bx b H H' → Q (.int d) H'
theorem ok_draw {A : Ad} (T : Txt w K mg base A) : FnOk P w K mg base CX0 1 A.a_draw A.d_draw P_draw spDraw := by
  refine T.F_draw.ok sc_draw (fun vs H Q E h => ?_) (fun cdv Ar outer s H vs Q E hr h => ?_)
  · obtain ⟨b, m, rfl, _⟩ := h
    rfl
  · obtain ⟨b, m, rfl, ⟨g, s, hb, g0, s0, s1⟩, m0, m1, q⟩ := h
    refine ⟨_, (pss_cons (ps_if (pt_cmpR op_gt (pe_ix (r := rIxL K) ix_list (pv 0) pe_int (fun _ _ => rfl)) pe_int (nomark _))
      (pss_cons (ps_set (i := 2) sc_draw.nd rfl (Or.inl rfl) (pe_op op_mod (pe_ix (r := rIxL K) ix_list (pv 0) pe_int (fun _ _ => rfl)) (pv 1)))
      (pss_cons (ps_asg (pe_op op_fdiv (pe_ix (r := rIxL K) ix_list (pv 0) pe_int (fun _ _ => rfl)) (pv 1)) (pg_sub (pv 0) pe_int set_list))
      (pss_one (ps_ret (pv 2))))) pss_nil)
      (pss_cons (ps_asg (pe_op op_mod (pe_op op_add (pe_op op_mul (pe_ix (r := rIxL K) ix_list (pv 0) pe_int (fun _ _ => rfl)) pe_int) pe_int) pe_int) (pg_sub (pv 0) pe_int set_list))
      (pss_one (ps_ret (pe_op op_mod (pe_op op_mod (pe_op op_pow (pe_op op_fdiv (pe_ix (r := rIxL K) ix_list (pv 0) pe_int (fun _ _ => rfl)) pe_int) pe_int) pe_int) (pv 1)))))), ?_⟩
    refine ⟨_, rfl, _, _, _, _, rfl, rfl, SqL.of hb, atI_nat (j := 0) rfl, _, _, rfl, rfl, _, rfl, ite2 (fun e => ?_) (fun e => ?_)⟩
    · refine ⟨_, rfl, _, _, _, _, rfl, rfl, SqL.of hb, atI_nat (j := 0) rfl, _, rfl, _, _, rfl, rfl, m0, ?_⟩
      refine ⟨_, rfl, _, _, _, _, rfl, rfl, SqL.of hb, atI_nat (j := 0) rfl, _, rfl, _, _, rfl, rfl, ⟨m0, by omega⟩, _, rfl, _, _, _, _, rfl, rfl, hb, Evl.ixN_nat (j := 0) (by show 0 < 2; decide), ?_⟩
      refine ⟨_, rfl, ?_⟩
      exact q _ _ (Int.emod_nonneg _ (by omega)) (Int.emod_lt_of_pos _ m0) (Bx.drawn (Int.ediv_nonneg g0 (by omega)) s0 s1)
    · have t0 := Int.emod_nonneg (s * 69621 + 1234567) (show (2147483647 : Int) ≠ 0 by decide)
      have t1 := Int.emod_lt_of_pos (s * 69621 + 1234567) (show (0 : Int) < 2147483647 by decide)
      refine ⟨_, rfl, _, _, _, _, rfl, rfl, SqL.of hb, atI_nat (j := 1) rfl, _, _, rfl, rfl, .inr ⟨by decide, by decide⟩, _, _, rfl, rfl, _, _, rfl, rfl, (by show (0 : Int) < 2147483647; decide), _, rfl, _, _, _, _, rfl, rfl, hb, Evl.ixN_nat (j := 1) (by show 1 < 2; decide), ?_⟩
      refine ⟨_, rfl, _, _, _, _, rfl, rfl, SqL.of upd_same, atI_nat (j := 1) rfl, _, _, rfl, rfl, ⟨by decide, by decide⟩, _, _, rfl, rfl, ⟨by decide, by decide, ?_⟩, _, _, rfl, rfl, (by show (0 : Int) < 998244353; decide), _, rfl, _, _, rfl, rfl, m0, ?_⟩
      · omega
      · exact q _ _ (Int.emod_nonneg _ (by omega)) (Int.emod_lt_of_pos _ m0) (Bx.drawn g0 t0 (by omega))

--SPLIT
/-! ### verdicts -/
theorem eqV_str (a b : Str) : eqV (.str a) (.str b) = decide (b = a) := by
  show (a == b) = decide (b = a)
  rw [Bool.eq_iff_iff, beq_iff_eq, decide_eq_true_iff]
  exact eq_comm
theorem ne_word {a b : Str} (h : a ≠ b) : ¬ (V.str a = V.str b) := fun e => h (V.str.inj e)
theorem vword {a b : Str} : (V.str a = V.str b) ↔ a = b := ⟨fun h => V.str.inj h, fun h => by rw [h]⟩
def spVerd : Sp := fun vs H Q _ => ∃ (wd : Str) (h : Bool), vs = [.str wd, .bl h] ∧ ∀ H', Same H H' → Q (.str (verd wd h)) H'
theorem ok_verdict_on {A : Ad} (T : Txt w K mg base A) : FnOk P w K mg base CX0 1 A.a_verdict_on A.d_verdict_on P_verdict_on spVerd := by
  refine T.F_verdict_on.ok sc_verdict_on (fun vs H Q E h => ?_) (fun cdv Ar outer s H vs Q E hr h => ?_)
  · obtain ⟨wd, h, rfl, _⟩ := h
    rfl
  · obtain ⟨wd, h, rfl, q⟩ := h
    refine ⟨_, (pss_cons (ps_if (pt_cmpR op_eq (pv 0) pe_str (nomark _))
      (pss_one (ps_ret pe_str)) pss_nil)
      (pss_one (ps_ret (pe_ifExp (pt_cmpR op_eq (pe_cmpR (r := rIn K false) op_in_seq (pv 0) (pe_tup (pa_cons pe_str (pa_cons pe_str pa_nil))) (by rfl)) (pv 1) (nomark _)) pe_str pe_str)))), ?_⟩
    refine ⟨_, rfl, rfl, _, rfl, ?_⟩
    by_cases z : wd = wUnsure
    · refine iteD1 (vword.mpr z) ?_
      have := q H (Same.refl H)
      unfold verd at this
      rw [if_pos z] at this
      exact this
    · refine iteD0 (fun y => z (vword.mp y)) ?_
      refine ⟨_, rfl, (by show 2 ≤ sizeLine; decide), fun p hp => ⟨p, _, rfl, .inr (SqT.of upd_same), rfl, rfl, _, rfl, rfl, _, rfl, ?_⟩⟩
      have e1 : inV (.str wd) [.str (Str.ofString "good"), .str (Str.ofString "rough")] = (decide (wd = Str.ofString "good") || decide (wd = Str.ofString "rough")) := by
        unfold inV
        rw [List.any_cons, List.any_cons, List.any_nil, Bool.or_false, eqV_str, eqV_str]
      show if decide (V.bl (inV (.str wd) [.str (Str.ofString "good"), .str (Str.ofString "rough")]) = V.bl h) = true then _ else _
      rw [e1]
      have fin := q _ (same_new hp (o := .tup [.str (Str.ofString "good"), .str (Str.ofString "rough")]))
      unfold verd at fin
      rw [if_neg z] at fin
      by_cases y : (decide (wd = Str.ofString "good") || decide (wd = Str.ofString "rough")) = h
      · rw [if_pos y] at fin
        exact iteD1 (by rw [y]) fin
      · rw [if_neg y] at fin
        exact iteD0 (fun x => y (V.bl.inj x)) fin
def spVerdL : Sp := fun vs H Q _ => ∃ (wd : Str) (h : Bool), vs = [.str wd, .bl h] ∧ ∀ H', Same H H' → Q (.str (verd wd h)) H'
theorem ok_verdict {A : Ad} (T : Txt w K mg base A) : FnOk P w K mg base CX0 1 A.a_verdict A.d_verdict P_verdict spVerdL := by
  refine T.F_verdict.ok sc_verdict (fun vs H Q E h => ?_) (fun cdv Ar outer s H vs Q E hr h => ?_)
  · obtain ⟨wd, h, rfl, _⟩ := h
    rfl
  · obtain ⟨wd, h, rfl, q⟩ := h
    refine ⟨_, (pss_cons (ps_if (pt_cmpR op_eq (pv 0) pe_str (nomark _))
      (pss_one (ps_ret pe_str)) pss_nil)
      (pss_cons (ps_if (PW.pt (pw_or (pt_cmpR op_eq (pv 0) pe_str (nomark _)) (pw_or1 (pt_cmpR op_eq (pv 0) pe_str (nomark _)))))
      (pss_one (ps_ret (pe_ix (r := rIxL K) ix_list (pe_lst (pa_cons pe_str (pa_cons pe_str pa_nil))) (pe_callTy call_int1 (by rfl) T.z_int (by decide +kernel) (pa_cons (pv 1) pa_nil)) (fun _ _ => rfl)))) pss_nil)
      (pss_one (ps_ret (pe_ix (r := rIxL K) ix_list (pe_lst (pa_cons pe_str (pa_cons pe_str pa_nil))) (pe_callTy call_int1 (by rfl) T.z_int (by decide +kernel) (pa_cons (pv 1) pa_nil)) (fun _ _ => rfl)))))), ?_⟩
    refine ⟨_, rfl, rfl, _, rfl, ?_⟩
    by_cases z : wd = wUnsure
    · refine iteD1 (vword.mpr z) ?_
      have := q H (Same.refl H)
      unfold verd at this
      rw [if_pos z] at this
      exact this
    · refine iteD0 (fun y => z (vword.mp y)) ?_
      have yes : ∀ p, H p = none → (decide (wd = Str.ofString "good") || decide (wd = Str.ofString "rough")) = true → ∃ u, atI [V.str (Str.ofString "apart"), .str (Str.ofString "same")] (if h then 1 else 0) = some u ∧ Q u (upd H p (.lst [V.str (Str.ofString "apart"), .str (Str.ofString "same")])) := fun p hp y => by
        have fin := q _ (same_new hp (o := .lst [V.str (Str.ofString "apart"), .str (Str.ofString "same")]))
        unfold verd at fin
        rw [if_neg z, y] at fin
        cases h with
        | true => exact ⟨_, rfl, fin⟩
        | false => exact ⟨_, rfl, fin⟩
      have no : ∀ p, H p = none → (decide (wd = Str.ofString "good") || decide (wd = Str.ofString "rough")) = false → ∃ u, atI [V.str (Str.ofString "same"), .str (Str.ofString "apart")] (if h then 1 else 0) = some u ∧ Q u (upd H p (.lst [V.str (Str.ofString "same"), .str (Str.ofString "apart")])) := fun p hp y => by
        have fin := q _ (same_new hp (o := .lst [V.str (Str.ofString "same"), .str (Str.ofString "apart")]))
        unfold verd at fin
        rw [if_neg z, y] at fin
        cases h with
        | true => exact ⟨_, rfl, fin⟩
        | false => exact ⟨_, rfl, fin⟩
      refine ⟨_, rfl, rfl, _, rfl, ?_⟩
      by_cases y1 : wd = Str.ofString "good"
      · refine iteD1 (vword.mpr y1) (iteT ?_)
        refine ⟨(by show 2 ≤ sizeLine; decide), fun p hp => ⟨_, rfl, .inr ⟨_, rfl, ?_⟩⟩⟩
        obtain ⟨u, h1, h2⟩ := yes p hp (by rw [y1]; decide)
        exact ⟨_, _, _, _, rfl, rfl, SqL.of upd_same, h1, h2⟩
      · refine iteD0 (fun x => y1 (vword.mp x)) ?_
        refine ⟨_, rfl, rfl, _, rfl, ?_⟩
        by_cases y2 : wd = Str.ofString "rough"
        · refine iteD1 (vword.mpr y2) ?_
          refine ⟨(by show 2 ≤ sizeLine; decide), fun p hp => ⟨_, rfl, .inr ⟨_, rfl, ?_⟩⟩⟩
          obtain ⟨u, h1, h2⟩ := yes p hp (by rw [y2]; decide)
          exact ⟨_, _, _, _, rfl, rfl, SqL.of upd_same, h1, h2⟩
        · refine iteD0 (fun x => y2 (vword.mp x)) ?_
          refine ⟨(by show 2 ≤ sizeLine; decide), fun p hp => ⟨_, rfl, .inr ⟨_, rfl, ?_⟩⟩⟩
          obtain ⟨u, h1, h2⟩ := no p hp (by rw [decide_eq_false y1, decide_eq_false y2]; rfl)
          exact ⟨_, _, _, _, rfl, rfl, SqL.of upd_same, h1, h2⟩
--SPLIT
/-! ### words told -/
theorem kV_nat (n : Nat) : (V.int (n : Int)) = kV (.inl (n : Int)) := rfl
theorem inl_nat {a b : Nat} : ((Sum.inl (a : Int) : Key) = Sum.inl (b : Int)) ↔ a = b := ⟨fun h => Int.ofNat.inj (Sum.inl.inj h), fun h => by rw [h]⟩
def spToldW (K : PySem.W.Frag) : Sp := fun vs H Q _ => ∃ (o : List Nat) (b : Addr) (bvs : List V) (bk : List Rw), vs = [.str (sOf o), .ref b] ∧ SqL K H b bvs ∧ BkAt H bvs bk ∧ bk.length ≤ 1000 ∧
  ∀ D kvs H', H D = none → Same H H' → H' D = some (.dK kvs) → (∀ n : Nat, valV kvs (.inl (n : Int)) = (foldW wUnsent wUnsure (toldWs o n bk)).map V.str) → Q (.ref D) H'
theorem ok_told_words {A : Ad} (T : Txt w K mg base A) : FnOk P w K mg base CX0 1 A.a_told_words A.d_told_words P_told_words (spToldW K) := by
  refine T.F_told_words.ok sc_told_words (fun vs H Q E h => ?_) (fun cdv Ar outer s H vs Q E hr h => ?_)
  · obtain ⟨o, b, bvs, bk, rfl, _⟩ := h
    rfl
  · obtain ⟨o, b, bvs, bk, rfl, hb, hbk, lb, q⟩ := h
    refine ⟨_, (pss_cons (ps_set (i := 2) sc_told_words.nd rfl (Or.inl rfl) pe_dnewK)
      (pss_cons (ps_for PassesOwn.never rfl (pi_list (pv 1)) (pg_name (i := 3) sc_told_words.nd rfl (Or.inl rfl))
      (pss_one (ps_if (PW.pt (pw_and (pt_cmpR op_eq (pe_ix (r := rIxT K) ix_tup (pv 3) pe_int (fun _ _ => rfl)) pe_str (nomark _)) (pw_and1 (pt_cmpR op_eq (pe_ix (r := rIxT K) ix_tup (pv 3) pe_int (fun _ _ => rfl)) (pv 0) (nomark _)))))
      (pss_cons (ps_par (i := 4) (j := 5) (by rfl) sc_told_words.nd rfl rfl (by decide) rfl rfl (pa_cons (pe_ix (r := rIxT K) ix_tup (pv 3) pe_int (fun _ _ => rfl)) (pa_cons (pe_ix (r := rIxT K) ix_tup (pv 3) pe_int (fun _ _ => rfl)) pa_nil)) (by rfl))
      (pss_one (ps_if (PW.pt (pw_or (pt_cmpR op_ne (pv 5) pe_str (nomark _)) (pw_or1 (pt_cmpR op_ne (pe_dget1 (hu_of hr) (pv 2) (pv 4) ⟨rfl, rfl, rfl, rfl⟩) pe_str (nomark _)))))
      (pss_one (ps_asg (pv 5) (pg_sub (pv 2) (pv 4) (set_dict (hu_of hr))))) pss_nil))) pss_nil)))
      (pss_one (ps_ret (pv 2))))), ?_⟩
    have lv := hbk.len
    refine fun D hD => ?_
    refine ⟨_, rfl, b, rfl, ⟨_, (same_new hD).seq hb⟩, for_list (K := K) (a := b) (xs := bvs) (fun i σ H' => ∃ (kvs : List (Key × V)) (y3 y4 y5 : Option V), σ = [some (.str (sOf o)), some (.ref b), some (.ref D), y3, y4, y5] ∧ Same H H' ∧ H' D = some (.dK kvs) ∧ kvs.length ≤ i ∧ ∀ n : Nat, valV kvs (.inl (n : Int)) = (foldW wUnsent wUnsure (toldWs o n (bk.take i))).map V.str) ⟨[], none, none, none, rfl, same_new hD, upd_same, Nat.le_refl _, fun n => rfl⟩ (fun i σ H' _ ⟨_, _, _, _, _, sm, _⟩ => sm.seq hb) ?_ ?_⟩
    · rintro i v σ H1 hv ⟨kvs, y3, y4, y5, rfl, sm, hD1, lk, hval⟩
      obtain ⟨r, hr, ra⟩ := hbk.getV hv
      have hi := (List.getElem?_eq_some_iff.mp hr).1
      have ra1 := ra.mono (KeepsT.of sm)
      have tk : ∀ n, toldWs o n (bk.take (i + 1)) = toldWs o n (bk.take i) ++ (toldO o n r).toList := fun n => by
        unfold toldWs
        rw [take_more _ _ _ hr, List.filterMap_append]
        cases e : toldO o n r with
        | none => simp [List.filterMap_cons, e]
        | some u => simp [List.filterMap_cons, e]
      have stay : (∀ n, toldO o n r = none) → ∀ z3 z4 z5, ∃ (kvs : List (Key × V)) (x3 x4 x5 : Option V), [some (V.str (sOf o)), some (.ref b), some (.ref D), z3, z4, z5] = [some (.str (sOf o)), some (.ref b), some (.ref D), x3, x4, x5] ∧ Same H H1 ∧ H1 D = some (.dK kvs) ∧ kvs.length ≤ i + 1 ∧ ∀ n : Nat, valV kvs (.inl (n : Int)) = (foldW wUnsent wUnsure (toldWs o n (bk.take (i + 1)))).map V.str := fun hn z3 z4 z5 => ⟨kvs, _, _, _, rfl, sm, hD1, by omega, fun n => by rw [tk, hn]; simp only [Option.toList, List.append_nil]; exact hval n⟩
      cases r with
      | kept n nm es =>
        obtain ⟨t, e, rfl, h1, h2⟩ := ra1
        refine ⟨_, rfl, _, _, _, _, rfl, rfl, SqT.of h1, atI_nat (j := 0) rfl, rfl, _, rfl, iteD0 (ne_word (by decide)) (iteF ?_)⟩
        exact stay (fun _ => rfl) _ _ _
      | had nm n g =>
        obtain ⟨t, k, e, rfl, h1, h2, h3⟩ := ra1
        refine ⟨_, rfl, _, _, _, _, rfl, rfl, SqT.of h1, atI_nat (j := 0) rfl, rfl, _, rfl, iteD0 (ne_word (by decide)) (iteF ?_)⟩
        exact stay (fun _ => rfl) _ _ _
      | told n nm wd =>
        obtain ⟨t, rfl, h1⟩ := ra1
        refine ⟨_, rfl, _, _, _, _, rfl, rfl, SqT.of h1, atI_nat (j := 0) rfl, rfl, _, rfl, iteD1 rfl ?_⟩
        refine ⟨_, rfl, _, _, _, .str (sOf nm), rfl, rfl, SqT.of h1, atI_nat (j := 2) rfl, _, rfl, rfl, _, rfl, ?_⟩
        by_cases zo : nm = o
        · refine iteD1 (vstr.mpr zo) ?_
          refine ⟨_, rfl, _, _, _, .int (n : Int), rfl, rfl, SqT.of h1, atI_nat (j := 1) rfl, _, rfl, _, _, _, .str wd, rfl, rfl, SqT.of h1, atI_nat (j := 3) rfl, _, _, rfl, ?_⟩
          have vn := hval n
          have tn : ∀ k, toldO o k (.told n nm wd) = if n = k then some wd else none := fun k => by
            show (if n = k ∧ nm = o then some wd else none) = _
            by_cases z : n = k
            · rw [if_pos (And.intro z zo), if_pos z]
            · rw [if_neg (fun y => z y.1), if_neg z]
          have yes : (wd ≠ wUnsent ∨ foldW wUnsent wUnsure (toldWs o n (bk.take i)) ≠ some wUnsure) → ∀ H2, H2 = upd H1 D (.dK (putK kvs (.inl (n : Int)) (.str wd))) → ∀ z3 z4 z5, ∃ (kvs : List (Key × V)) (x3 x4 x5 : Option V), [some (V.str (sOf o)), some (.ref b), some (.ref D), z3, z4, z5] = [some (.str (sOf o)), some (.ref b), some (.ref D), x3, x4, x5] ∧ Same H H2 ∧ H2 D = some (.dK kvs) ∧ kvs.length ≤ i + 1 ∧ ∀ n : Nat, valV kvs (.inl (n : Int)) = (foldW wUnsent wUnsure (toldWs o n (bk.take (i + 1)))).map V.str := fun hc H2 e z3 z4 z5 => by
            subst e
            refine ⟨_, _, _, _, rfl, Same.mut sm hD, upd_same, ?_, fun k => ?_⟩
            · have := length_putK kvs (.inl (n : Int)) (V.str wd)
              omega
            · rw [valV_put, tk, tn]
              by_cases z : n = k
              · subst z
                rw [if_pos rfl, if_pos rfl]
                simp only [Option.toList]
                rw [foldW_app]
                unfold stepW
                rw [if_pos hc]
                rfl
              · rw [if_neg (fun y => z (inl_nat.mp y).symm), if_neg z]
                simp only [Option.toList, List.append_nil]
                exact hval k
          refine ⟨_, rfl, rfl, _, rfl, ?_⟩
          by_cases z1 : wd = wUnsent
          · refine iteN0 (vword.mpr z1) ?_
            refine ⟨_, rfl, _, rfl, .inl ⟨_, .inl hD1⟩, _, rfl, _, DGet.k (k := .inl (n : Int)) hD1, ?_, _, rfl, ?_⟩
            · rw [vn]
              cases foldW wUnsent wUnsure (toldWs o n (bk.take i)) <;> rfl
            · rw [vn]
              by_cases z2 : foldW wUnsent wUnsure (toldWs o n (bk.take i)) = some wUnsure
              · rw [z2]
                refine iteN0 rfl ?_
                refine ⟨kvs, _, _, _, rfl, sm, hD1, by omega, fun k => ?_⟩
                rw [tk, tn]
                by_cases z : n = k
                · subst z
                  rw [if_pos rfl]
                  simp only [Option.toList]
                  rw [foldW_app, vn]
                  unfold stepW
                  rw [if_neg (fun y => by
                    rcases y with y | y
                    · exact y z1
                    · exact y z2)]
                · rw [if_neg z]
                  simp only [Option.toList, List.append_nil]
                  exact hval k
              · refine iteN1 (fun y => z2 ?_) ?_
                · cases e : foldW wUnsent wUnsure (toldWs o n (bk.take i)) with
                  | none =>
                    rw [e] at y
                    cases y
                  | some u =>
                    rw [e] at y
                    rw [vword.mp y]
                    rfl
                · refine ⟨_, rfl, _, rfl, _, rfl, D, _, rfl, DPut.k (k := .inl (n : Int)) hD1 (szl (by omega)), ?_⟩
                  exact yes (.inr z2) _ rfl _ _ _
          · refine iteN1 (fun y => z1 (vword.mp y)) (iteT ?_)
            refine ⟨_, rfl, _, rfl, _, rfl, D, _, rfl, DPut.k (k := .inl (n : Int)) hD1 (szl (by omega)), ?_⟩
            exact yes (.inl z1) _ rfl _ _ _
        · refine iteD0 (fun y => zo (vstr.mp y)) ?_
          exact stay (fun n => toldO_no (r := .told _ nm wd) zo) _ _ _
    · rintro σ H1 ⟨kvs, y3, y4, y5, rfl, sm, hD1, lk, hval⟩
      rw [lv, List.take_length] at hval
      exact ⟨_, rfl, q D kvs H1 hD sm hD1 hval⟩
/-! ### numbers had -/
def spHadN (K : PySem.W.Frag) : Sp := fun vs H Q _ => ∃ (o : List Nat) (b : Addr) (bvs : List V) (bk : List Rw), vs = [.str (sOf o), .ref b] ∧ SqL K H b bvs ∧ BkAt H bvs bk ∧ bk.length ≤ 1000 ∧
  ∀ D kvs H', H D = none → Same H H' → H' D = some (.dK kvs) → (∀ n : Nat, (valV kvs (.inl (n : Int))).isSome = hadB o n bk) → Q (.ref D) H'
theorem ok_had_numbers {A : Ad} (T : Txt w K mg base A) : FnOk P w K mg base CX0 1 A.a_had_numbers A.d_had_numbers P_had_numbers (spHadN K) := by
  refine T.F_had_numbers.ok sc_had_numbers (fun vs H Q E h => ?_) (fun cdv Ar outer s H vs Q E hr h => ?_)
  · obtain ⟨o, b, bvs, bk, rfl, _⟩ := h
    rfl
  · obtain ⟨o, b, bvs, bk, rfl, hb, hbk, lb, q⟩ := h
    refine ⟨_, (pss_one (ps_ret (pe_dc (own := [("row", 2)]) (g := gName 2) (by rfl) sc_had_numbers.nd (pi_list (pv 1)) (blkOk_by (own := [("row", 2)]) (N := N_had_numbers) (sc := defScope s_had_numbers) (by decide +kernel)) (fun _ _ _ _ _ => pg_name (i := 2) sc_had_numbers.nd rfl (Or.inl rfl)) (fun _ _ _ _ _ => (pts_one (PW.pt (pw_and (pt_cmpR op_eq (pe_ix (r := rIxT K) ix_tup (pv 2) pe_int (fun _ _ => rfl)) pe_str (nomark _)) (pw_and1 (pt_cmpR op_eq (pe_ix (r := rIxT K) ix_tup (pe_ix (r := rIxT K) ix_tup (pv 2) pe_int (fun _ _ => rfl)) pe_int (fun _ _ => rfl)) (pv 0) (nomark _))))))) (fun _ _ _ _ _ => (pe_ix (r := rIxT K) ix_tup (pe_ix (r := rIxT K) ix_tup (pv 2) pe_int (fun _ _ => rfl)) pe_int (fun _ _ => rfl))) (fun _ _ _ _ _ => pe_bl)))), ?_⟩
    have lv := hbk.len
    refine ⟨_, rfl, b, rfl, ⟨_, hb⟩, fun D hD => dc_lst (K := K) (a := b) (xs := bvs) (fun i H' => ∃ (kvs : List (Key × V)), Same H H' ∧ H' D = some (.dK kvs) ∧ kvs.length ≤ i ∧ ∀ n : Nat, (valV kvs (.inl (n : Int))).isSome = hadB o n (bk.take i)) ⟨[], same_new hD, upd_same, Nat.le_refl _, fun n => rfl⟩ (fun i H' _ ⟨_, sm, _⟩ => sm.seq hb) ?_ ?_⟩
    · rintro i v H1 hv ⟨kvs, sm, hD1, lk, hval⟩
      obtain ⟨r, hr, ra⟩ := hbk.getV hv
      have hi := (List.getElem?_eq_some_iff.mp hr).1
      have ra1 := ra.mono (KeepsT.of sm)
      have tk : ∀ n, hadB o n (bk.take (i + 1)) = (hadB o n (bk.take i) || hadO o n r) := fun n => by
        unfold hadB
        rw [take_more _ _ _ hr, List.any_append]
        simp
      have stay : (∀ n, hadO o n r = false) → ∃ (kvs : List (Key × V)), Same H H1 ∧ H1 D = some (.dK kvs) ∧ kvs.length ≤ i + 1 ∧ ∀ n : Nat, (valV kvs (.inl (n : Int))).isSome = hadB o n (bk.take (i + 1)) := fun hn => ⟨kvs, sm, hD1, by omega, fun n => by rw [tk, hn, Bool.or_false]; exact hval n⟩
      cases r with
      | kept n nm es =>
        obtain ⟨t, e, rfl, h1, h2⟩ := ra1
        refine ⟨rfl, _, rfl, _, _, _, _, rfl, rfl, SqT.of h1, atI_nat (j := 0) rfl, rfl, _, rfl, iteD0 (ne_word (by decide)) (iteF ?_)⟩
        exact stay (fun _ => rfl)
      | told n nm wd =>
        obtain ⟨t, rfl, h1⟩ := ra1
        refine ⟨rfl, _, rfl, _, _, _, _, rfl, rfl, SqT.of h1, atI_nat (j := 0) rfl, rfl, _, rfl, iteD0 (ne_word (by decide)) (iteF ?_)⟩
        exact stay (fun _ => rfl)
      | had nm n g =>
        obtain ⟨t, k, e, rfl, h1, h2, h3⟩ := ra1
        refine ⟨rfl, _, rfl, _, _, _, _, rfl, rfl, SqT.of h1, atI_nat (j := 0) rfl, rfl, _, rfl, iteD1 rfl ?_⟩
        refine ⟨_, rfl, _, _, _, .ref k, rfl, rfl, SqT.of h1, atI_nat (j := 1) rfl, _, _, _, .str (sOf nm), rfl, rfl, SqT.of h2, atI_nat (j := 0) rfl, _, rfl, rfl, _, rfl, ?_⟩
        by_cases zo : nm = o
        · refine iteD1 (vstr.mpr zo) ?_
          refine ⟨_, rfl, _, _, _, .ref k, rfl, rfl, SqT.of h1, atI_nat (j := 1) rfl, _, _, _, .int (n : Int), rfl, rfl, SqT.of h2, atI_nat (j := 1) rfl, kvs, .inl (n : Int), rfl, hD1, szl (by omega), _, Same.mut sm hD, upd_same, ?_, fun m => ?_⟩
          · have := length_putK kvs (.inl (n : Int)) (V.bl true)
            omega
          · rw [valV_put, tk]
            unfold hadO
            by_cases z : m = n
            · rw [if_pos (by rw [z])]
              simp [zo, z]
            · rw [if_neg (fun y => z (inl_nat.mp y)), hval m]
              have z' : ¬ n = m := fun y => z y.symm
              simp [zo, z']
        · refine iteD0 (fun y => zo (vstr.mp y)) ?_
          exact stay (fun n => hadO_no (r := .had nm _ g) zo)
    · rintro H1 ⟨kvs, sm, hD1, lk, hval⟩
      rw [lv, List.take_length] at hval
      exact q D kvs H1 hD sm hD1 hval
--SPLIT
/-! ### stories -/
def spStories (K : PySem.W.Frag) : Sp := fun vs H Q _ => ∃ (one o : List Nat) (b f : Addr) (bvs fvs : List V) (bk far : List Rw), vs = [.str (sOf one), .str (sOf o), .ref b, .ref f] ∧ SqL K H b bvs ∧ BkAt H bvs bk ∧ SqL K H f fvs ∧ BkAt H fvs far ∧ bk.length ≤ 1000 ∧ far.length ≤ 1000 ∧
  ∀ p ts H', H p = none → Same H H' → H' p = some (.lst ts) → TpsAt otV H' ts (stO one o bk far) → Q (.ref p) H'
theorem keptNs_len (o : List Nat) (b : List Rw) : (keptNs o b).length ≤ b.length := List.length_filterMap_le ..
theorem ok_stories {A : Ad} (T : Txt w K mg base A) : FnOk P w K mg base CX0 2 A.a_stories A.d_stories P_stories (spStories K) := by
  have G_told_words := ok_told_words (P := P) (w := w) (base := base) T
  have G_had_numbers := ok_had_numbers (P := P) (w := w) (base := base) T
  have G_verdict_on := ok_verdict_on (P := P) (w := w) (base := base) T
  refine T.F_stories.ok sc_stories (fun vs H Q E h => ?_) (fun cdv Ar outer s H vs Q E hr h => ?_)
  · obtain ⟨one, o, b, f, bvs, fvs, bk, far, rfl, _⟩ := h
    rfl
  · obtain ⟨one, o, b, f, bvs, fvs, bk, far, rfl, hb, hbk, hf, hfk, lb, lf, q⟩ := h
    refine ⟨_, (pss_cons (ps_set (i := 4) sc_stories.nd rfl (Or.inl rfl) (pe_call G_told_words (hr.mono (by decide)) (by rfl) T.g_told_words T.F_told_words.kp T.b_told_words .nil pass0 (pa_cons (pv 1) (pa_cons (pv 2) pa_nil))))
      (pss_cons (ps_set (i := 5) sc_stories.nd rfl (Or.inl rfl) (pe_call G_had_numbers (hr.mono (by decide)) (by rfl) T.g_had_numbers T.F_had_numbers.kp T.b_had_numbers .nil pass0 (pa_cons (pv 0) (pa_cons (pv 3) pa_nil))))
      (pss_cons (ps_set (i := 6) sc_stories.nd rfl (Or.inl rfl) (pe_lstW pa_nil))
      (pss_cons (ps_for PassesOwn.never rfl (pi_list (pv 2)) (pg_name (i := 7) sc_stories.nd rfl (Or.inl rfl))
      (pss_one (ps_if (PW.pt (pw_and (pt_cmpR op_eq (pe_ix (r := rIxT K) ix_tup (pv 7) pe_int (fun _ _ => rfl)) pe_str (nomark _)) (pw_and1 (pt_cmpR op_eq (pe_ix (r := rIxT K) ix_tup (pv 7) pe_int (fun _ _ => rfl)) (pv 1) (nomark _)))))
      (pss_cons (ps_set (i := 8) sc_stories.nd rfl (Or.inl rfl) (pe_ix (r := rIxT K) ix_tup (pv 7) pe_int (fun _ _ => rfl)))
      (pss_cons (ps_set (i := 9) sc_stories.nd rfl (Or.inl rfl) (pe_dget2 (hu_of hr) (pv 4) (pv 8) pe_str ⟨rfl, rfl, rfl, rfl⟩))
      (pss_one (ps_expr (pe_bm PySem.F.plainAttrs_list PySem.F.slot_list_append PySem.F.type_list_append mt_append (pv 6) (pa_cons (pe_tupW (pa_cons (pv 8) (pa_cons (pv 9) (pa_cons (pe_call G_verdict_on (hr.mono (by decide)) (by rfl) T.g_verdict_on T.F_verdict_on.kp T.b_verdict_on .nil pass0 (pa_cons (pv 9) (pa_cons (pe_cmp (pc_din (hu_of hr) (pv 8) (pv 5))) pa_nil))) pa_nil)))) pa_nil)))))) pss_nil)))
      (pss_one (ps_ret (pv 6))))))), ?_⟩
    have lv := hbk.len
    refine ⟨_, rfl, _, rfl, o, b, bvs, bk, rfl, hb, hbk, lb, fun D kvs H1 nD s1 hD hval => ?_⟩
    refine ⟨_, rfl, _, rfl, one, f, fvs, far, rfl, s1.seq hf, hfk.mono (KeepsT.of s1), lf, fun E2 kvs2 H2 nE s2 hE hval2 => ?_⟩
    have s02 := s1.trans s2
    refine ⟨(by show 0 ≤ 100000; decide), fun p H3 np s3 hp => ?_⟩
    have s03 := s02.trans s3
    have hpn : H p = none := by
      cases e : H p with
      | none => rfl
      | some u =>
        rw [s02 _ _ e] at np
        cases np
    have hD3 := s3 _ _ (s2 _ _ hD)
    have hE3 := s3 _ _ hE
    refine ⟨_, rfl, b, rfl, ⟨_, s03.seq hb⟩, for_list (K := K) (a := b) (xs := bvs) (fun i σ H' => ∃ (ts : List V) (y7 y8 y9 : Option V), σ = [some (.str (sOf one)), some (.str (sOf o)), some (.ref b), some (.ref f), some (.ref D), some (.ref E2), some (.ref p), y7, y8, y9] ∧ Same H2 H' ∧ Same H H' ∧ H' p = some (.lst ts) ∧ TpsAt otV H' ts ((keptNs o (bk.take i)).map (outO one o bk far))) ⟨[], none, none, none, rfl, s3, s03, hp, trivial⟩ (fun i σ H' _ ⟨_, _, _, _, _, _, sm, _⟩ => sm.seq hb) ?_ ?_⟩
    · rintro i v σ G1 hv ⟨ts, y7, y8, y9, rfl, sm2, sm, hp1, ta⟩
      obtain ⟨r, hr, ra⟩ := hbk.getV hv
      have hi := (List.getElem?_eq_some_iff.mp hr).1
      have ra1 := ra.mono (KeepsT.of sm)
      have tk : keptNs o (bk.take (i + 1)) = keptNs o (bk.take i) ++ (keptO o r).toList := by
        unfold keptNs
        rw [take_more _ _ _ hr, List.filterMap_append]
        cases e : keptO o r with
        | none => simp [List.filterMap_cons, e]
        | some u => simp [List.filterMap_cons, e]
      have stay : keptO o r = none → ∀ z7 z8 z9, ∃ (ts : List V) (x7 x8 x9 : Option V), [some (V.str (sOf one)), some (.str (sOf o)), some (.ref b), some (.ref f), some (.ref D), some (.ref E2), some (.ref p), z7, z8, z9] = [some (.str (sOf one)), some (.str (sOf o)), some (.ref b), some (.ref f), some (.ref D), some (.ref E2), some (.ref p), x7, x8, x9] ∧ Same H2 G1 ∧ Same H G1 ∧ G1 p = some (.lst ts) ∧ TpsAt otV G1 ts ((keptNs o (bk.take (i + 1))).map (outO one o bk far)) := fun hn z7 z8 z9 => ⟨ts, _, _, _, rfl, sm2, sm, hp1, by rw [tk, hn]; simp only [Option.toList, List.append_nil]; exact ta⟩
      cases r with
      | had nm n g =>
        obtain ⟨t, k, e, rfl, h1, h2, h3⟩ := ra1
        refine ⟨_, rfl, _, _, _, _, rfl, rfl, SqT.of h1, atI_nat (j := 0) rfl, rfl, _, rfl, iteD0 (ne_word (by decide)) (iteF ?_)⟩
        exact stay rfl _ _ _
      | told n nm wd =>
        obtain ⟨t, rfl, h1⟩ := ra1
        refine ⟨_, rfl, _, _, _, _, rfl, rfl, SqT.of h1, atI_nat (j := 0) rfl, rfl, _, rfl, iteD0 (ne_word (by decide)) (iteF ?_)⟩
        exact stay rfl _ _ _
      | kept n nm es =>
        obtain ⟨t, e, rfl, h1, h2⟩ := ra1
        refine ⟨_, rfl, _, _, _, _, rfl, rfl, SqT.of h1, atI_nat (j := 0) rfl, rfl, _, rfl, iteD1 rfl ?_⟩
        refine ⟨_, rfl, _, _, _, .str (sOf nm), rfl, rfl, SqT.of h1, atI_nat (j := 2) rfl, _, rfl, rfl, _, rfl, ?_⟩
        by_cases zo : nm = o
        · refine iteD1 (vstr.mpr zo) ?_
          refine ⟨_, rfl, _, _, _, .int (n : Int), rfl, rfl, SqT.of h1, atI_nat (j := 1) rfl, ?_⟩
          have hD4 := sm2 _ _ (s2 _ _ hD)
          have hE4 := sm2 _ _ hE
          have gw : (valV kvs (.inl (n : Int))).getD (.str (Str.ofString "waiting")) = .str (wordW o n bk) := by
            rw [hval n]
            unfold wordW
            cases foldW wUnsent wUnsure (toldWs o n bk) <;> rfl
          refine ⟨_, rfl, _, rfl, .inl ⟨_, .inl hD4⟩, _, rfl, _, DGet.k (k := .inl (n : Int)) hD4, ?_⟩
          rw [gw]
          refine ⟨_, rfl, .inl ⟨rfl, _, SqL.of hp1⟩, _, rfl, _, rfl, _, rfl, _, rfl, _, rfl, _, _, rfl, DGet.k (k := .inl (n : Int)) hE4, wordW o n bk, _, rfl, fun G2 s4 => ⟨(by show 3 ≤ 100000; decide), fun t2 G3 nt s5 ht => ?_⟩⟩
          rw [hval2 n] at ht
          have hp3 := s5 _ _ (s4 _ _ hp1)
          have tp : t2 ≠ p := fun z => by
            rw [z, hp3] at ht
            cases ht
          have lts := ta.len
          rw [List.length_map] at lts
          have lk := keptNs_len o (bk.take i)
          rw [List.length_take] at lk
          refine ⟨p, _, _, rfl, rfl, hp3, szl (by omega), ts ++ [.ref t2], _, _, _, rfl, ?_, Same.mut ((sm.trans s4).trans s5) hpn, upd_same, ?_⟩
          · exact Same.mut ((sm2.trans s4).trans s5) np
          · rw [tk]
            show TpsAt otV _ _ ((keptNs o (bk.take i) ++ (if nm = o then some n else none).toList).map _)
            rw [if_pos zo, List.map_append]
            refine TpsAt.push (TpsAt.mono (fun c xs hc => ?_) ta) (by rw [upd_ne tp]; exact ht)
            have cp : c ≠ p := fun z => by
              rw [z, hp1] at hc
              cases hc
            rw [upd_ne cp]
            exact s5 _ _ (s4 _ _ hc)
        · refine iteD0 (fun y => zo (vstr.mp y)) ?_
          exact stay (keptO_no (r := .kept _ nm es) zo) _ _ _
    · rintro σ G1 ⟨ts, y7, y8, y9, rfl, sm2, sm, hp1, ta⟩
      rw [lv, List.take_length] at ta
      exact ⟨_, rfl, q p ts G1 hpn sm hp1 ta⟩
--SPLIT
/-! ### the law's word of a page -/
theorem iteB1 {c : Bool} {A B : Prop} (h : c = true) (a : A) : if c = true then A else B := by
  rw [if_pos h]
  exact a
theorem iteB0 {c : Bool} {A B : Prop} (h : c = false) (b : B) : if c = true then A else B := by
  rw [if_neg (by rw [h]; decide)]
  exact b
theorem strs_eq (ws : List Str) (h : ∀ u ∈ ws, PyData.strOk u = true) : DOk (.list (ws.map PyData.str)) 1 := DOk.list (n := 0) fun u hu => DOk.word (h u hu)
def spWordL (K : PySem.W.Frag) : Sp := fun vs H Q _ => ∃ (b : Addr) (n : Nat) (o : List Nat) (bvs : List V) (bk : List Rw), vs = [.ref b, .int (n : Int), .str (sOf o)] ∧ SqL K H b bvs ∧ BkAt H bvs bk ∧ bk.length ≤ 1000 ∧ (∀ r ∈ bk, RwOk r) ∧ Codes o ∧
  ∀ H', Same H H' → Q (.str (wordW o n bk)) H'
theorem told_mem {o : List Nat} {n : Nat} {bk : List Rw} (h : ∀ r ∈ bk, RwOk r) {u : Str} (hu : u ∈ toldWs o n bk) : PyData.strOk u = true := by
  unfold toldWs at hu
  obtain ⟨r, hr, er⟩ := List.mem_filterMap.mp hu
  have ok := h r hr
  cases r with
  | kept n nm es => cases er
  | had nm n g => cases er
  | told k nm w2 =>
    unfold toldO at er
    simp only at er
    split at er
    · rw [← Option.some.inj er]
      exact ok.2
    · cases er
theorem ok_word {A : Ad} (T : Txt w K mg base A) : FnOk P w K mg base CX0 1 A.a_word A.d_word P_word (spWordL K) := by
  refine T.F_word.ok sc_word (fun vs H Q E h => ?_) (fun cdv Ar outer s H vs Q E hr h => ?_)
  · obtain ⟨b, n, o, bvs, bk, rfl, _⟩ := h
    rfl
  · obtain ⟨b, n, o, bvs, bk, rfl, hb, hbk, lb, okb, co, q⟩ := h
    refine ⟨_, (pss_cons (ps_setLc (i := 3) (own := [("_law_row", 5)]) (g := gName 5) (by rfl) sc_word.nd rfl rfl (sw_true rfl rfl rfl (by decide +kernel)) (pi_list (pv 0)) (blkOk_by (own := [("_law_row", 5)]) (N := N_word) (sc := defScope s_word) (by decide +kernel)) (fun _ _ _ _ _ => pg_name (i := 5) sc_word.nd rfl (Or.inl rfl)) (fun _ _ _ _ _ => (pts_one (PW.pt (pw_and (pt_cmpR op_eq (pe_ix (r := rIxT K) ix_tup (pv 5) pe_int (fun _ _ => rfl)) pe_str (nomark _)) (pw_and1 (pt_cmpR (r := rEqD K) (op_eqD hr.units) (pe_slice sl_tupW (pv 5) (po_some pe_int) (po_some pe_int)) (pe_tupW (pa_cons (pv 1) (pa_cons (pv 2) pa_nil))) (nomark _))))))) (fun s5 H5 C5 cl5 fp5 => (pe_ix (r := rIxT K) ix_tup (pv 5) pe_int (fun _ _ => rfl))))
      (pss_cons (ps_if (pt_cmpR (r := rEqD K) (op_eqD hr.units) (pv 3) (pe_lstW pa_nil) (nomark _))
      (pss_one (ps_ret pe_str)) pss_nil)
      (pss_cons (ps_set (i := 4) sc_word.nd rfl (Or.inl rfl) (pe_callB (r := fun xs H Q => ∃ p ys, xs = [.ref p] ∧ (SqL K H p ys ∨ SqT K H p ys) ∧ Q (.int ys.length) H) call_len_seq (by rfl) T.z_len PySem.boot_len (pa_cons (pv 3) pa_nil)))
      (Evl.pss_cut (ps_while PassesOwn.never (PW.pt (pw_and (pt_cmpR op_gt (pv 4) pe_int (nomark _)) (pw_and1 (pt_cmpR op_eq (pe_ix (r := rIxL K) ix_list (pv 3) (pe_op op_sub (pv 4) pe_int) (fun _ _ => rfl)) pe_str (nomark _)))))
      (pss_one (ps_set (i := 4) sc_word.nd rfl (Or.inl rfl) (pe_op op_sub (pv 4) pe_int))))
      (pss_cons (ps_if (PW.pt (pw_and (pt_cmpR op_lt (pv 4) (pe_callB (r := fun xs H Q => ∃ p ys, xs = [.ref p] ∧ (SqL K H p ys ∨ SqT K H p ys) ∧ Q (.int ys.length) H) call_len_seq (by rfl) T.z_len PySem.boot_len (pa_cons (pv 3) pa_nil)) (nomark _)) (pw_and (pt_cmpR op_gt (pv 4) pe_int (nomark _)) (pw_and1 (pt_cmpR op_eq (pe_ix (r := rIxL K) ix_list (pv 3) (pe_op op_sub (pv 4) pe_int) (fun _ _ => rfl)) pe_str (nomark _))))))
      (pss_one (ps_ret pe_str)) pss_nil)
      (pss_one (ps_ret (pe_ix (r := rIxL K) ix_list (pv 3) (pe_un un_neg pe_int) (fun _ _ => rfl))))))))), ?_⟩
    have lv := hbk.len
    refine ⟨_, rfl, b, rfl, ⟨_, hb⟩, fun D hD => lc_list (K := K) (a := b) (xs := bvs) (fun i H' => Same H H' ∧ H' D = some (.lst ((toldWs o n (bk.take i)).map V.str))) ⟨same_new hD, upd_same⟩ (fun i H' _ hh => hh.1.seq hb) ?_ ?_⟩
    · rintro i v H1 hv ⟨sm, hD1⟩
      obtain ⟨r, hr, ra⟩ := hbk.getV hv
      have hi := (List.getElem?_eq_some_iff.mp hr).1
      have ra1 := ra.mono (KeepsT.of sm)
      have tk : toldWs o n (bk.take (i + 1)) = toldWs o n (bk.take i) ++ (toldO o n r).toList := by
        unfold toldWs
        rw [take_more _ _ _ hr, List.filterMap_append]
        cases e : toldO o n r with
        | none => simp [List.filterMap_cons, e]
        | some u => simp [List.filterMap_cons, e]
      have stay : toldO o n r = none → ∀ H2, Same H1 H2 → Same H H2 ∧ H2 D = some (.lst ((toldWs o n (bk.take (i + 1))).map V.str)) := fun hn H2 s2 => ⟨sm.trans s2, by rw [tk, hn]; simp only [Option.toList, List.append_nil]; exact s2 _ _ hD1⟩
      cases r with
      | kept k nm es =>
        obtain ⟨t, e, rfl, h1, h2⟩ := ra1
        refine ⟨rfl, _, rfl, _, _, _, _, rfl, rfl, SqT.of h1, atI_nat (j := 0) rfl, rfl, _, rfl, iteD0 (ne_word (by decide)) (iteF ?_)⟩
        exact stay rfl _ (Same.refl _)
      | had nm k g =>
        obtain ⟨t, k2, e, rfl, h1, h2, h3⟩ := ra1
        refine ⟨rfl, _, rfl, _, _, _, _, rfl, rfl, SqT.of h1, atI_nat (j := 0) rfl, rfl, _, rfl, iteD0 (ne_word (by decide)) (iteF ?_)⟩
        exact stay rfl _ (Same.refl _)
      | told k nm wd =>
        obtain ⟨t, rfl, h1⟩ := ra1
        have okr := okb _ (List.mem_of_getElem? hr)
        refine ⟨rfl, _, rfl, _, _, _, _, rfl, rfl, SqT.of h1, atI_nat (j := 0) rfl, rfl, _, rfl, iteD1 rfl ?_⟩
        refine ⟨_, rfl, _, rfl, _, rfl, _, _, rfl, h1, fun t2 H2 s2 ht2 => ⟨_, rfl, _, rfl, (by show 2 ≤ 100000; decide), fun t3 H3 nt3 s3 ht3 => ?_⟩⟩
        have ht2 : H2 t2 = some (.tup [.int (k : Int), .str (sOf nm)]) := ht2
        have d1 : Dp K H3 (.ref t2) (.tuple [.int (k : Int), .str (sOf nm)]) := .tup (.inl (.inl (s3 _ _ ht2))) (.cons (.int _) (.cons (.str _) .nil))
        have d2 : Dp K H3 (.ref t3) (.tuple [.int (n : Int), .str (sOf o)]) := .tup (.inl (.inl ht3)) (.cons (.int _) (.cons (.str _) .nil))
        have o1 : DOk (.tuple [.int (k : Int), .str (sOf nm)]) 1 := DOk.tup (DOk.cons (DOk.int _) (DOk.cons (DOk.str okr.1) (DOk.nil 0)))
        have o2 : DOk (.tuple [.int (n : Int), .str (sOf o)]) 1 := DOk.tup (DOk.cons (DOk.int _) (DOk.cons (DOk.str co) (DOk.nil 0)))
        refine ⟨_, _, d1, d2, o1.shaped, o2.shaped, _, rfl, ?_⟩
        have ev : PyData.eqv (.tuple [.int (k : Int), .str (sOf nm)]) (.tuple [.int (n : Int), .str (sOf o)]) = decide (k = n ∧ nm = o) := by
          simp only [PyData.eqv, PyData.eqvAll, Bool.and_true]
          by_cases z1 : k = n
          · by_cases z2 : nm = o
            · simp [z1, z2]
            · have : ¬ sOf nm = sOf o := fun y => z2 (sOf_inj y)
              simp [z1, z2, this]
          · have : ¬ ((k : Int) = (n : Int)) := fun y => z1 (Int.ofNat.inj y)
            simp [z1, this]
        rw [ev]
        by_cases z : k = n ∧ nm = o
        · refine iteD1 z ?_
          have h3 := s3 _ _ (s2 _ _ h1)
          have hD3 := s3 _ _ (s2 _ _ hD1)
          refine ⟨_, rfl, _, _, _, .str wd, rfl, rfl, SqT.of h3, atI_nat (j := 3) rfl, _, hD3, ?_, Same.mut ((sm.trans s2).trans s3) hD, ?_⟩
          · have := List.length_filterMap_le (toldO o n) (bk.take i)
            rw [List.length_take] at this
            rw [List.length_map]
            unfold toldWs
            exact szl (by omega)
          · rw [upd_same, tk]
            show _ = some (HO.lst ((toldWs o n (bk.take i) ++ (if k = n ∧ nm = o then some wd else none).toList).map V.str))
            rw [if_pos z, List.map_append]
            rfl
        · refine iteD0 z ?_
          exact stay (by show (if k = n ∧ nm = o then some wd else none) = none; rw [if_neg z]) _ (s2.trans s3)
    rintro H1 ⟨sm, hD1⟩
    rw [lv, List.take_length] at hD1
    have okw : ∀ u ∈ toldWs o n bk, PyData.strOk u = true := fun u hu => told_mem okb hu
    have fw : wordW o n bk = (wordL wUnsent wUnsure (toldWs o n bk)).getD (Str.ofString "waiting") := by
      unfold wordW
      rw [word_eq wUnsent wUnsure (by decide +kernel)]
    have lw : (toldWs o n bk).length ≤ 1000 := by
      have := List.length_filterMap_le (toldO o n) bk
      unfold toldWs
      omega
    generalize toldWs o n bk = ws at *
    have wl : (ws.map V.str).length = ws.length := List.length_map ..
    refine ⟨_, rfl, (by show 0 ≤ 100000; decide), fun p2 H2 np2 s2 hp2 => ?_⟩
    have hD2 := s2 _ _ hD1
    have sm2 := sm.trans s2
    refine ⟨.list (ws.map PyData.str), .list [], .lst (SqL.of hD2) (dp_all fun x _ => .str _), .lst (SqL.of hp2) .nil, (strs_eq ws okw).shaped, (DOk.list (α := Nat) (f := fun _ => PyData.none) (n := 0) (xs := []) fun _ h => nomatch h).shaped, _, rfl, ?_⟩
    by_cases nn : ws = []
    · subst nn
      refine iteB1 ?_ ?_
      · simp [PyData.eqv, PyData.eqvAll]
      · have := q H2 sm2
        rw [fw] at this
        exact this
    · refine iteB0 ?_ ?_
      · cases ws with
        | nil => exact absurd rfl nn
        | cons u r => simp [PyData.eqv, PyData.eqvAll]
      have wpos : 0 < ws.length := List.length_pos_iff.mpr nn
      have getw : ∀ j, j < ws.length → atI (ws.map V.str) (j : Int) = some (.str (ws.getD j wUnsent)) := fun j hj => atI_nat (by
        rw [List.getElem?_map, List.getD_eq_getElem?_getD, List.getElem?_eq_getElem hj]
        rfl)
      have getd : ∀ j, j < ws.length → ws[j]? = some (ws.getD j wUnsent) := fun j hj => by
        rw [List.getD_eq_getElem?_getD, List.getElem?_eq_getElem hj]
        rfl
      refine ⟨_, rfl, _, _, rfl, .inl (SqL.of hD2), ?_⟩
      rw [wl]
      have getU : ∀ a, 0 < a → a ≤ ws.length → atI (ws.map V.str) ((a : Int) - 1) = some (.str (ws.getD (a - 1) wUnsent)) := fun a h0 h1 => by
        rw [show (a : Int) - 1 = ((a - 1 : Nat) : Int) by omega]
        exact getw (a - 1) (by omega)
      refine ⟨fun σ H' => σ = [some (.ref b), some (.int (n : Int)), some (.str (sOf o)), some (.ref D), some (.int (stF wUnsent ws ws.length : Int)), none] ∧ H2 = H', ?_, ?_⟩
      · refine ⟨fun m σ H' => ∃ a : Nat, m = a ∧ σ = [some (.ref b), some (.int (n : Int)), some (.str (sOf o)), some (.ref D), some (.int (a : Int)), none] ∧ H2 = H' ∧ a ≤ ws.length ∧ stF wUnsent ws a = stF wUnsent ws ws.length, ⟨ws.length, ws.length, rfl, rfl, rfl, Nat.le_refl _, rfl⟩, ?_⟩
        rintro a σ H' ⟨_, rfl, rfl, rfl, al, est⟩
        have out : (a = 0 ∨ ws.getD (a - 1) wUnsent ≠ wUnsent) → stF wUnsent ws ws.length = a := fun h => by
          rw [← est]
          cases a with
          | zero => rfl
          | succ a =>
            unfold stF
            rw [getd a (by omega), if_neg]
            intro z
            rcases h with h | h
            · cases h
            · exact h (Option.some.inj z)
        refine ⟨_, rfl, _, _, rfl, rfl, _, rfl, ?_⟩
        by_cases z : 0 < a
        · refine iteD1 (by omega) ?_
          refine ⟨_, rfl, _, rfl, _, _, rfl, rfl, _, _, _, _, rfl, rfl, SqL.of hD2, getU a z al, rfl, _, rfl, ?_⟩
          by_cases y : ws.getD (a - 1) wUnsent = wUnsent
          · refine iteD1 (vword.mpr y) ⟨fun σ' H' => ∃ m', m' < a ∧ ∃ a : Nat, m' = a ∧ σ' = [some (.ref b), some (.int (n : Int)), some (.str (sOf o)), some (.ref D), some (.int (a : Int)), none] ∧ H2 = H' ∧ a ≤ ws.length ∧ stF wUnsent ws a = stF wUnsent ws ws.length, fun _ _ h => h, ?_⟩
            refine ⟨_, rfl, _, _, rfl, rfl, a - 1, by omega, a - 1, rfl, ?_, rfl, by omega, ?_⟩
            · rw [show ((a - 1 : Nat) : Int) = (a : Int) - 1 by omega]
              rfl
            · rw [← est]
              obtain ⟨c, rfl⟩ : ∃ c, a = c + 1 := ⟨a - 1, by omega⟩
              rw [Nat.add_sub_cancel] at y ⊢
              show _ = if ws[c]? = some wUnsent then stF wUnsent ws c else c + 1
              rw [getd c (by omega), y, if_pos rfl]
          · refine iteD0 (fun x => y (vword.mp x)) ?_
            exact ⟨by rw [out (.inr y)], rfl⟩
        · refine iteD0 (by omega) (iteF ?_)
          exact ⟨by rw [out (.inl (by omega))], rfl⟩
      · rintro σ H' ⟨rfl, rfl⟩
        have al := stF_le wUnsent ws ws.length
        have fw' : wordW o n bk = (if stF wUnsent ws ws.length < ws.length ∧ 0 < stF wUnsent ws ws.length ∧ ws[stF wUnsent ws ws.length - 1]? = some wUnsure then some wUnsure else ws[ws.length - 1]?).getD (Str.ofString "waiting") := by
          rw [fw]
          unfold wordL
          rw [if_neg nn]
        generalize stF wUnsent ws ws.length = a at *
        have ret : ¬ (a < ws.length ∧ 0 < a ∧ ws[a - 1]? = some wUnsure) → ∃ u, atI (ws.map V.str) (-1) = some u ∧ Q u H2 := fun h => by
          refine ⟨.str (ws.getD (ws.length - 1) wUnsent), ?_, ?_⟩
          · have : ixN (ws.map V.str).length (-1) = some (ws.length - 1) := by
              unfold ixN
              rw [wl, if_neg (by decide), if_pos (by omega)]
              congr 1
              omega
            unfold atI
            rw [this]
            show (ws.map V.str)[ws.length - 1]? = _
            rw [List.getElem?_map, getd _ (by omega)]
            rfl
          · have := q H2 sm2
            rw [fw', if_neg h, getd _ (by omega)] at this
            exact this
        refine ⟨_, rfl, _, rfl, _, _, rfl, .inl (SqL.of hD2), _, _, rfl, rfl, _, rfl, ?_⟩
        rw [wl]
        by_cases z1 : a < ws.length
        · refine iteD1 (by omega) ?_
          refine ⟨_, rfl, _, _, rfl, rfl, _, rfl, ?_⟩
          by_cases z2 : 0 < a
          · refine iteD1 (by omega) ?_
            refine ⟨_, rfl, _, rfl, _, _, rfl, rfl, _, _, _, _, rfl, rfl, SqL.of hD2, getU a z2 al, rfl, _, rfl, ?_⟩
            by_cases z3 : ws.getD (a - 1) wUnsent = wUnsure
            · refine iteD1 (vword.mpr z3) ?_
              have := q H2 sm2
              rw [fw', if_pos ⟨z1, z2, by rw [getd _ (by omega), z3]⟩] at this
              exact this
            · refine iteD0 (fun x => z3 (vword.mp x)) ?_
              obtain ⟨u, h1, h2⟩ := ret fun h => z3 (by
                have := h.2.2
                rw [getd _ (by omega)] at this
                exact Option.some.inj this)
              exact ⟨_, rfl, _, rfl, _, _, _, _, rfl, rfl, SqL.of hD2, h1, h2⟩
          · refine iteD0 (by omega) (iteF ?_)
            obtain ⟨u, h1, h2⟩ := ret fun h => z2 h.2.1
            exact ⟨_, rfl, _, rfl, _, _, _, _, rfl, rfl, SqL.of hD2, h1, h2⟩
        · refine iteD0 (by omega) (iteF ?_)
          obtain ⟨u, h1, h2⟩ := ret fun h => z1 h.1
          exact ⟨_, rfl, _, rfl, _, _, _, _, rfl, rfl, SqL.of hD2, h1, h2⟩
--SPLIT
/-! ### what is due -/
theorem eqv_nil {α : Type} (f : α → PyData) (rs : List α) : PyData.eqv (.list (rs.map f)) (.list []) = decide (rs.length = 0) := by
  cases rs with
  | nil => simp [PyData.eqv, PyData.eqvAll]
  | cons r s => simp [PyData.eqv, PyData.eqvAll]
theorem nil_ok : DOk (.list []) 1 := DOk.list (α := Nat) (f := fun _ => PyData.none) (n := 0) (xs := []) fun _ h => nomatch h
theorem pair_ok {l : List Nat} (h : Codes l) (n : Nat) : DOk (.tuple [.str (sOf l), .int (n : Int)]) 1 := DOk.tup (DOk.cons (DOk.str h) (DOk.cons (DOk.int _) (DOk.nil 0)))
theorem pair_eqv (l m : List Nat) (k n : Nat) : PyData.eqv (.tuple [.str (sOf l), .int (k : Int)]) (.tuple [.str (sOf m), .int (n : Int)]) = decide (l = m ∧ k = n) := by
  simp only [PyData.eqv, PyData.eqvAll, Bool.and_true]
  by_cases z1 : k = n
  · by_cases z2 : l = m
    · simp [z1, z2]
    · have : ¬ sOf l = sOf m := fun y => z2 (sOf_inj y)
      simp [z1, z2, this]
  · have : ¬ ((k : Int) = (n : Int)) := fun y => z1 (Int.ofNat.inj y)
    simp [z1, this]
def spDue (K : PySem.W.Frag) : Sp := fun vs H Q _ => ∃ (one o : List Nat) (b f : Addr) (bvs fvs : List V) (bk far : List Rw), vs = [.str (sOf one), .str (sOf o), .ref b, .ref f] ∧ SqL K H b bvs ∧ BkAt H bvs bk ∧ SqL K H f fvs ∧ BkAt H fvs far ∧ bk.length ≤ 1000 ∧ far.length ≤ 1000 ∧ (∀ r ∈ bk, RwOk r) ∧ (∀ r ∈ far, RwOk r) ∧ Codes one ∧ Codes o ∧
  ∀ p ts H', H p = none → Same H H' → H' p = some (.lst ts) → TpsAt otV H' ts (stO one o bk far) → Q (.ref p) H'
theorem ok_due {A : Ad} (T : Txt w K mg base A) : FnOk P w K mg base CX0 2 A.a_due A.d_due P_due (spDue K) := by
  have G_word := ok_word (P := P) (w := w) (base := base) T
  have G_verdict := ok_verdict (P := P) (w := w) (base := base) T
  refine T.F_due.ok sc_due (fun vs H Q E h => ?_) (fun cdv Ar outer s H vs Q E hr h => ?_)
  · obtain ⟨one, o, b, f, bvs, fvs, bk, far, rfl, _⟩ := h
    rfl
  · obtain ⟨one, o, b, f, bvs, fvs, bk, far, rfl, hb, hbk, hf, hfk, lb, lf, okb, okf, c1, c2, q⟩ := h
    refine ⟨_, (pss_cons (ps_set (i := 4) sc_due.nd rfl (Or.inl rfl) (pe_lstW pa_nil))
      (pss_cons (ps_for PassesOwn.never rfl (pi_list (pv 2)) (pg_name (i := 5) sc_due.nd rfl (by first | exact Or.inl rfl | exact Or.inr rfl))
      (pss_one (ps_if (PW.pt (pw_and (pt_cmpR op_eq (pe_ix (r := rIxT K) ix_tup (pv 5) pe_int (fun _ _ => rfl)) pe_str (nomark _)) (pw_and1 (pt_cmpR op_eq (pe_ix (r := rIxT K) ix_tup (pv 5) pe_int (fun _ _ => rfl)) (pv 1) (nomark _)))))
      (pss_cons (ps_set (i := 6) sc_due.nd rfl (Or.inl rfl) (pe_call G_word (hr.mono (by decide)) (by rfl) T.g_word T.F_word.kp T.b_word .nil pass0 (pa_cons (pv 2) (pa_cons (pe_ix (r := rIxT K) ix_tup (pv 5) pe_int (fun _ _ => rfl)) (pa_cons (pv 1) pa_nil)))))
      (pss_cons (ps_set (i := 7) sc_due.nd rfl (Or.inl rfl) (pe_cmpR (r := rNeD K) (op_neD hr.units) (pe_lc (own := [("_law_more_here", 8)]) (g := gName 8) (by rfl) sc_due.nd (pi_list (pv 3)) (blkOk_by (own := [("_law_more_here", 8)]) (N := N_due) (sc := defScope s_due) (by decide +kernel)) (fun _ _ _ _ _ => pg_name (i := 8) sc_due.nd rfl (Or.inl rfl)) (fun _ _ _ _ _ => (pts_one (PW.pt (pw_and (pt_cmpR op_eq (pe_ix (r := rIxT K) ix_tup (pv 8) pe_int (fun _ _ => rfl)) pe_str (nomark _)) (pw_and1 (pt_cmpR (r := rEqD K) (op_eqD hr.units) (pe_ix (r := rIxT K) ix_tup (pv 8) pe_int (fun _ _ => rfl)) (pe_tupW (pa_cons (pv 0) (pa_cons (pe_ix (r := rIxT K) ix_tup (pv 5) pe_int (fun _ _ => rfl)) pa_nil))) (nomark _))))))) (fun s5 H5 C5 cl5 fp5 => (pv 8))) (pe_lstW pa_nil) (nomark _)))
      (pss_one (ps_expr (pe_bm PySem.F.plainAttrs_list PySem.F.slot_list_append PySem.F.type_list_append mt_append (pv 4) (pa_cons (pe_tupW (pa_cons (pe_ix (r := rIxT K) ix_tup (pv 5) pe_int (fun _ _ => rfl)) (pa_cons (pv 6) (pa_cons (pe_call G_verdict (hr.mono (by decide)) (by rfl) T.g_verdict T.F_verdict.kp T.b_verdict .nil pass0 (pa_cons (pv 6) (pa_cons (pv 7) pa_nil))) pa_nil)))) pa_nil)))))) pss_nil)))
      (pss_one (ps_ret (pv 4))))), ?_⟩
    have lv := hbk.len
    have lfv := hfk.len
    refine ⟨(by show 0 ≤ 100000; decide), fun p H3 np s03 hp => ?_⟩
    refine ⟨_, rfl, b, rfl, ⟨_, s03.seq hb⟩, for_list (K := K) (a := b) (xs := bvs) (fun i σ H' => ∃ (ts : List V) (y5 y6 y7 y8 : Option V), σ = [some (.str (sOf one)), some (.str (sOf o)), some (.ref b), some (.ref f), some (.ref p), y5, y6, y7, y8] ∧ Same H H' ∧ H' p = some (.lst ts) ∧ TpsAt otV H' ts ((keptNs o (bk.take i)).map (outO one o bk far))) ⟨[], none, none, none, none, rfl, s03, hp, trivial⟩ (fun i σ H' _ ⟨_, _, _, _, _, _, sm, _⟩ => sm.seq hb) ?_ ?_⟩
    · rintro i v σ G1 hv ⟨ts, y5, y6, y7, y8, rfl, sm, hp1, ta⟩
      obtain ⟨r, hr, ra⟩ := hbk.getV hv
      have hi := (List.getElem?_eq_some_iff.mp hr).1
      have ra1 := ra.mono (KeepsT.of sm)
      have tk : keptNs o (bk.take (i + 1)) = keptNs o (bk.take i) ++ (keptO o r).toList := by
        unfold keptNs
        rw [take_more _ _ _ hr, List.filterMap_append]
        cases e : keptO o r with
        | none => simp [List.filterMap_cons, e]
        | some u => simp [List.filterMap_cons, e]
      have stay : keptO o r = none → ∀ z5 z6 z7 z8, ∃ (ts : List V) (x5 x6 x7 x8 : Option V), [some (V.str (sOf one)), some (.str (sOf o)), some (.ref b), some (.ref f), some (.ref p), z5, z6, z7, z8] = [some (.str (sOf one)), some (.str (sOf o)), some (.ref b), some (.ref f), some (.ref p), x5, x6, x7, x8] ∧ Same H G1 ∧ G1 p = some (.lst ts) ∧ TpsAt otV G1 ts ((keptNs o (bk.take (i + 1))).map (outO one o bk far)) := fun hn z5 z6 z7 z8 => ⟨ts, _, _, _, _, rfl, sm, hp1, by rw [tk, hn]; simp only [Option.toList, List.append_nil]; exact ta⟩
      cases r with
      | had nm n g =>
        obtain ⟨t, k, e, rfl, h1, h2, h3⟩ := ra1
        refine ⟨_, rfl, _, _, _, _, rfl, rfl, SqT.of h1, atI_nat (j := 0) rfl, rfl, _, rfl, iteD0 (ne_word (by decide)) (iteF ?_)⟩
        exact stay rfl _ _ _ _
      | told n nm wd =>
        obtain ⟨t, rfl, h1⟩ := ra1
        refine ⟨_, rfl, _, _, _, _, rfl, rfl, SqT.of h1, atI_nat (j := 0) rfl, rfl, _, rfl, iteD0 (ne_word (by decide)) (iteF ?_)⟩
        exact stay rfl _ _ _ _
      | kept n nm es =>
        obtain ⟨t, e, rfl, h1, h2⟩ := ra1
        refine ⟨_, rfl, _, _, _, _, rfl, rfl, SqT.of h1, atI_nat (j := 0) rfl, rfl, _, rfl, iteD1 rfl ?_⟩
        refine ⟨_, rfl, _, _, _, .str (sOf nm), rfl, rfl, SqT.of h1, atI_nat (j := 2) rfl, _, rfl, rfl, _, rfl, ?_⟩
        by_cases zo : nm = o
        · refine iteD1 (vstr.mpr zo) ?_
          refine ⟨_, rfl, _, rfl, _, _, _, .int (n : Int), rfl, rfl, SqT.of h1, atI_nat (j := 1) rfl, _, rfl, b, n, o, bvs, bk, rfl, sm.seq hb, hbk.mono (KeepsT.of sm), lb, okb, c2, fun G2 s2 => ?_⟩
          have h1' := s2 _ _ h1
          have sm2 := sm.trans s2
          -- whether it was had
          refine ⟨_, rfl, f, rfl, ⟨_, sm2.seq hf⟩, fun D hD => lc_list (K := K) (a := f) (xs := fvs) (fun j H' => ∃ (ys : List V) (rs : List Rw), Same G2 H' ∧ H' D = some (.lst ys) ∧ BkAt H' ys rs ∧ (∀ r ∈ rs, RwOk r) ∧ rs.length ≤ j ∧ decide (rs.length = 0) = !hadB one n (far.take j)) ⟨[], [], same_new hD, upd_same, trivial, fun _ h => (nomatch h), Nat.le_refl _, rfl⟩ (fun j H' _ ⟨_, _, s, _⟩ => (sm2.trans s).seq hf) ?_ ?_⟩
          · rintro j u J1 hu ⟨ys, rs, sj, hD1, bk1, ok1, l1, e1⟩
            obtain ⟨r2, hr2, ra2⟩ := hfk.getV hu
            have hj := (List.getElem?_eq_some_iff.mp hr2).1
            have ra3 := ra2.mono (KeepsT.of (sm2.trans sj))
            have tk2 : hadB one n (far.take (j + 1)) = (hadB one n (far.take j) || hadO one n r2) := by
              unfold hadB
              rw [take_more _ _ _ hr2, List.any_append]
              simp
            have stay2 : hadO one n r2 = false → ∀ J2, Same J1 J2 → ∃ (ys : List V) (rs : List Rw), Same G2 J2 ∧ J2 D = some (.lst ys) ∧ BkAt J2 ys rs ∧ (∀ r ∈ rs, RwOk r) ∧ rs.length ≤ j + 1 ∧ decide (rs.length = 0) = !hadB one n (far.take (j + 1)) := fun hn J2 s => ⟨ys, rs, sj.trans s, s _ _ hD1, bk1.mono (KeepsT.of s), ok1, by omega, by rw [tk2, hn, Bool.or_false]; exact e1⟩
            cases r2 with
            | kept k2 nm2 es2 =>
              obtain ⟨t2, e2, rfl, g1, g2⟩ := ra3
              refine ⟨rfl, _, rfl, _, _, _, _, rfl, rfl, SqT.of g1, atI_nat (j := 0) rfl, rfl, _, rfl, iteD0 (ne_word (by decide)) (iteF ?_)⟩
              exact stay2 rfl _ (Same.refl _)
            | told k2 nm2 wd2 =>
              obtain ⟨t2, rfl, g1⟩ := ra3
              refine ⟨rfl, _, rfl, _, _, _, _, rfl, rfl, SqT.of g1, atI_nat (j := 0) rfl, rfl, _, rfl, iteD0 (ne_word (by decide)) (iteF ?_)⟩
              exact stay2 rfl _ (Same.refl _)
            | had nm2 k2 g2 =>
              have ra4 := ra3
              obtain ⟨t2, kk, e2, rfl, g1, g2', g3⟩ := ra3
              have okr := okf _ (List.mem_of_getElem? hr2)
              refine ⟨rfl, _, rfl, _, _, _, _, rfl, rfl, SqT.of g1, atI_nat (j := 0) rfl, rfl, _, rfl, iteD1 rfl ?_⟩
              refine ⟨_, rfl, _, _, _, .ref kk, rfl, rfl, SqT.of g1, atI_nat (j := 1) rfl, _, rfl, _, rfl, _, _, _, .int (n : Int), rfl, rfl, SqT.of (sj _ _ h1'), atI_nat (j := 1) rfl, (by show 2 ≤ 100000; decide), fun t3 J2 nt3 s3 ht3 => ?_⟩
              refine ⟨_, _, .tup (.inl (.inl (s3 _ _ g2'))) (.cons (.str _) (.cons (.int _) .nil)), .tup (.inl (.inl ht3)) (.cons (.str _) (.cons (.int _) .nil)), (pair_ok okr k2).shaped, (pair_ok c1 n).shaped, _, rfl, ?_⟩
              rw [pair_eqv]
              by_cases z : nm2 = one ∧ k2 = n
              · refine iteD1 z ?_
                refine ⟨_, rfl, _, s3 _ _ hD1, ?_, ys ++ [.ref t2], rs ++ [.had nm2 k2 g2], Same.mut (sj.trans s3) hD, upd_same, ?_, fun r hr => ?_, ?_, ?_⟩
                · have := bk1.len
                  exact szl (by omega)
                · have kp : KeepsT J1 (upd J2 D (.lst (ys ++ [.ref t2]))) := fun c xs hc => by
                    have cD : c ≠ D := fun y => by
                      rw [y, hD1] at hc
                      cases hc
                    rw [upd_ne cD]
                    exact s3 _ _ hc
                  exact BkAt.app (ws := [.ref t2]) (ts := [.had nm2 k2 g2]) ⟨ra4.mono kp, trivial⟩ (bk1.mono kp)
                · rcases List.mem_append.mp hr with y | y
                  · exact ok1 r y
                  · rw [List.mem_singleton.mp y]
                    exact okr
                · rw [List.length_append]
                  show _ + 1 ≤ _
                  omega
                · rw [tk2]
                  unfold hadO
                  simp [z]
              · refine iteD0 z ?_
                exact stay2 (decide_eq_false z) _ s3
          rintro J1 ⟨ys, rs, sj, hD1, bk1, ok1, l1, e1⟩
          rw [lfv, List.take_length] at e1
          refine ⟨(by show 0 ≤ 100000; decide), fun p2 J2 np2 s4 hp2 => ?_⟩
          refine ⟨.list (rs.map rwD), .list [], .lst (SqL.of (s4 _ _ hD1)) (dp_bk (bk1.mono (KeepsT.of s4))), .lst (SqL.of hp2) .nil, (DOk.list (n := 2) fun r hr => rwD_ok (ok1 r hr)).shaped, nil_ok.shaped, ?_⟩
          rw [eqv_nil, e1, Bool.not_not]
          have s14 := (s2.trans sj).trans s4
          have hp4 := s14 _ _ hp1
          have h14 := s14 _ _ h1
          refine ⟨_, rfl, .inl ⟨rfl, _, SqL.of hp4⟩, _, rfl, _, _, _, .int (n : Int), rfl, rfl, SqT.of h14, atI_nat (j := 1) rfl, _, rfl, _, rfl, _, rfl, wordW o n bk, hadB one n far, rfl, fun G4 s5 => ⟨(by show 3 ≤ 100000; decide), fun t2 G5 nt s6 ht => ?_⟩⟩
          have hp5 := s6 _ _ (s5 _ _ hp4)
          have tp : t2 ≠ p := fun z => by
            rw [z, hp5] at ht
            cases ht
          have lts := ta.len
          rw [List.length_map] at lts
          have lk := keptNs_len o (bk.take i)
          rw [List.length_take] at lk
          refine ⟨p, _, _, rfl, rfl, hp5, szl (by omega), ts ++ [.ref t2], _, _, _, _, rfl, Same.mut (((sm.trans s14).trans s5).trans s6) np, upd_same, ?_⟩
          rw [tk]
          show TpsAt otV _ _ ((keptNs o (bk.take i) ++ (if nm = o then some n else none).toList).map _)
          rw [if_pos zo, List.map_append]
          refine TpsAt.push (TpsAt.mono (fun c xs hc => ?_) ta) (by rw [upd_ne tp]; exact ht)
          have cp : c ≠ p := fun z => by
            rw [z, hp1] at hc
            cases hc
          rw [upd_ne cp]
          exact s6 _ _ (s5 _ _ (s14 _ _ hc))
        · refine iteD0 (fun y => zo (vstr.mp y)) ?_
          exact stay (keptO_no (r := .kept _ nm es) zo) _ _ _ _
    · rintro σ G1 ⟨ts, y5, y6, y7, y8, rfl, sm, hp1, ta⟩
      rw [lv, List.take_length] at ta
      exact ⟨_, rfl, q p ts G1 np sm hp1 ta⟩
--SPLIT
/-! ### names and numbers are drawn -/
theorem letter_at0 : ∀ j, j < 26 → (Str.ofString "abcdefghijklmnopqrstuvwxyz").cps.toList[j]? = some (97 + j) := by decide +kernel
theorem letter_at {i : Int} (h0 : 0 ≤ i) (h1 : i < 26) : atI (Str.ofString "abcdefghijklmnopqrstuvwxyz").cps.toList i = some (97 + i.toNat) := by
  obtain ⟨j, rfl⟩ := Int.eq_ofNat_of_zero_le h0
  exact atI_nat (letter_at0 j (by omega))
theorem let_len : (Str.ofString "abcdefghijklmnopqrstuvwxyz").length ≤ sizeLine := by decide
def NmOk (nm : List Nat) : Prop := Codes nm ∧ nm.length ≤ 8
def spNames : Sp := fun vs H Q _ => ∃ (b : Addr) (m : Nat), vs = [.ref b, .int (m : Int)] ∧ BagAt H b ∧ m ≤ 26 ∧
  ∀ p (f : Nat) (nms : List (List Nat)) H', H p = none → Bx b H H' → H' p = some (.lst (nms.map sV)) → nms.length = m → (∀ j nm, nms[j]? = some nm → NmOk nm ∧ nm.head? = some (97 + (f + j) % 26)) → Q (.ref p) H'
theorem ok_names_drawn {A : Ad} (T : Txt w K mg base A) : FnOk P w K mg base CX0 2 A.a_names_drawn A.d_names_drawn P_names_drawn spNames := by
  have G_draw := ok_draw (P := P) (w := w) (base := base) T
  refine T.F_names_drawn.ok sc_names_drawn (fun vs H Q E h => ?_) (fun cdv Ar outer s H vs Q E hr h => ?_)
  · obtain ⟨b, m, rfl, _⟩ := h
    rfl
  · obtain ⟨b, m, rfl, hb, m26, q⟩ := h
    refine ⟨_, (pss_cons (ps_set (i := 2) sc_names_drawn.nd rfl (Or.inl rfl) pe_str)
      (pss_cons (ps_set (i := 3) sc_names_drawn.nd rfl (Or.inl rfl) (pe_call G_draw (hr.mono (by decide)) (by rfl) T.g_draw T.F_draw.kp T.b_draw .nil pass0 (pa_cons (pv 0) (pa_cons pe_int pa_nil))))
      (pss_cons (ps_set (i := 4) sc_names_drawn.nd rfl (Or.inl rfl) (pe_lst pa_nil))
      (pss_cons (ps_for PassesOwn.never rfl (pi_range1 (by rfl) T.z_range (pa_cons (pv 1) pa_nil)) (pg_name (i := 5) sc_names_drawn.nd rfl (Or.inl rfl))
      (pss_cons (ps_set (i := 6) sc_names_drawn.nd rfl (Or.inl rfl) (pe_ix ix_str (pv 2) (pe_op op_mod (pe_op op_add (pv 3) (pv 5)) pe_int) (fun _ _ => rfl)))
      (pss_cons (ps_for PassesOwn.never rfl (pi_range1 (by rfl) T.z_range (pa_cons (pe_call G_draw (hr.mono (by decide)) (by rfl) T.g_draw T.F_draw.kp T.b_draw .nil pass0 (pa_cons (pv 0) (pa_cons pe_int pa_nil))) pa_nil)) (pg_name (i := 7) sc_names_drawn.nd rfl (Or.inl rfl))
      (pss_one (ps_set (i := 6) sc_names_drawn.nd rfl (Or.inl rfl) (pe_op op_add_str (pv 6) (pe_ix ix_str (pv 2) (pe_call G_draw (hr.mono (by decide)) (by rfl) T.g_draw T.F_draw.kp T.b_draw .nil pass0 (pa_cons (pv 0) (pa_cons pe_int pa_nil))) (fun _ _ => rfl))))))
      (pss_one (ps_expr (pe_bm PySem.F.plainAttrs_list PySem.F.slot_list_append PySem.F.type_list_append mt_append (pv 4) (pa_cons (pv 6) pa_nil)))))))
      (pss_one (ps_ret (pv 4))))))), ?_⟩
    refine ⟨_, rfl, b, 26, rfl, hb, by decide, by decide, fun f H1 f0 f1 bx1 => ?_⟩
    obtain ⟨f, rfl⟩ := Int.eq_ofNat_of_zero_le f0
    refine ⟨(by show 0 ≤ sizeLine; decide), fun p hp => ?_⟩
    have npb : p ≠ b := BagAt.ne bx1.1 hp
    have hpn : H p = none := bx1.free hp
    refine ⟨_, rfl, _, rfl, by omega, by omega, ?_⟩
    rw [Int.toNat_natCast]
    refine for_range (lo := 0) (n := m) (fun i σ H' => ∃ (nms : List (List Nat)) (y5 y6 y7 : Option V), σ = [some (.ref b), some (.int (m : Int)), some (.str (Str.ofString "abcdefghijklmnopqrstuvwxyz")), some (.int (f : Int)), some (.ref p), y5, y6, y7] ∧ Bx b H H' ∧ H' p = some (.lst (nms.map sV)) ∧ nms.length = i ∧ ∀ j nm, nms[j]? = some nm → NmOk nm ∧ nm.head? = some (97 + (f + j) % 26)) ⟨[], none, none, none, rfl, bx1.same (same_new hp), upd_same, rfl, fun j nm h => by cases h⟩ ?_ ?_
    · rintro i σ G1 hi ⟨nms, y5, y6, y7, rfl, bx, hp1, ln, hn⟩
      have e0 : ((f : Int) + (0 + (i : Int))) % 26 = (((f + i) % 26 : Nat) : Int) := by omega
      refine ⟨_, rfl, _, rfl, _, rfl, _, _, rfl, rfl, _, _, rfl, rfl, (by show (0 : Int) < 26; decide), _, _, _, rfl, rfl, let_len, letter_at (by omega) (by omega), ?_⟩
      refine ⟨_, rfl, b, 8, rfl, bx.1, by decide, by decide, fun d G2 d0 d1 bx2 => ?_⟩
      obtain ⟨d, rfl⟩ := Int.eq_ofNat_of_zero_le d0
      refine ⟨_, rfl, by omega, by omega, ?_⟩
      rw [Int.toNat_natCast]
      have hp2 := bx2.2 _ _ npb hp1
      refine for_range (lo := 0) (n := d) (fun k σ H' => ∃ (nm : List Nat) (y7 : Option V), σ = [some (.ref b), some (.int (m : Int)), some (.str (Str.ofString "abcdefghijklmnopqrstuvwxyz")), some (.int (f : Int)), some (.ref p), some (.int (0 + (i : Int))), some (.str (sOf nm)), y7] ∧ Bx b H H' ∧ H' p = some (.lst (nms.map sV)) ∧ Codes nm ∧ nm.length = k + 1 ∧ nm.head? = some (97 + (f + i) % 26)) ⟨[97 + (f + i) % 26], y7, ?_, bx.trans bx2, hp2, ?_, rfl, rfl⟩ ?_ ?_
      · rw [show (97 + (((f : Int) + (0 + (i : Int))) % 26).toNat) = 97 + (f + i) % 26 by omega]
        rfl
      · intro c hc
        rw [List.mem_singleton.mp hc]
        omega
      · rintro k σ G3 hk ⟨nm, y7, rfl, bx3, hp3, cn, lnm, hd⟩
        refine ⟨_, rfl, _, rfl, _, rfl, b, 26, rfl, bx3.1, by decide, by decide, fun e G4 e0 e1 bx4 => ⟨_, _, _, rfl, rfl, let_len, letter_at e0 e1, _, _, rfl, rfl, ?_, ?_⟩⟩
        · rw [sOf_len]
          exact sz (by show nm.length + 1 ≤ _; omega)
        · rw [show (⟨#[97 + e.toNat]⟩ : Str) = sOf [97 + e.toNat] from rfl, sOf_app]
          refine ⟨nm ++ [97 + e.toNat], _, rfl, bx3.trans bx4, bx4.2 _ _ npb hp3, ?_, by rw [List.length_append, lnm]; rfl, ?_⟩
          · intro c hc
            rcases List.mem_append.mp hc with z | z
            · exact cn c z
            · rw [List.mem_singleton.mp z]
              omega
          · cases nm with
            | nil => cases lnm
            | cons c r => exact hd
      · rintro σ G3 ⟨nm, y7, rfl, bx3, hp3, cn, lnm, hd⟩
        refine ⟨_, rfl, .inl ⟨rfl, _, SqL.of hp3⟩, _, rfl, p, _, _, rfl, rfl, hp3, (by rw [List.length_map]; exact szl (by omega)), nms ++ [nm], _, _, _, rfl, bx3.mut hpn npb, ?_, by rw [List.length_append, ln]; rfl, fun j x hx => ?_⟩
        · rw [upd_same, List.map_append]
          rfl
        · by_cases z : j < nms.length
          · rw [List.getElem?_append_left z] at hx
            exact hn j x hx
          · rw [List.getElem?_append_right (by omega)] at hx
            have j0 : j - nms.length = 0 := by
              by_cases y : j - nms.length = 0
              · exact y
              · rw [List.getElem?_eq_none (by show 1 ≤ _; omega)] at hx
                cases hx
            rw [j0] at hx
            have hx : nm = x := Option.some.inj hx
            subst hx
            refine ⟨⟨cn, by omega⟩, ?_⟩
            rw [hd, show j = i by omega]
    · rintro σ G1 ⟨nms, y5, y6, y7, rfl, bx, hp1, ln, hn⟩
      exact ⟨_, rfl, q p f nms G1 hpn bx hp1 ln hn⟩
def spNumber : Sp := fun vs H Q _ => ∃ (b : Addr), vs = [.ref b] ∧ BagAt H b ∧ ∀ (n : Nat) H', Bx b H H' → Q (.int (n : Int)) H'
theorem ok_number {A : Ad} (T : Txt w K mg base A) : FnOk P w K mg base CX0 2 A.a_number A.d_number P_number spNumber := by
  have G_draw := ok_draw (P := P) (w := w) (base := base) T
  refine T.F_number.ok sc_number (fun vs H Q E h => ?_) (fun cdv Ar outer s H vs Q E hr h => ?_)
  · obtain ⟨b, rfl, _⟩ := h
    rfl
  · obtain ⟨b, rfl, hb, q⟩ := h
    refine ⟨_, (pss_one (ps_ret (pe_ix (r := rIxL K) ix_list (pe_lst (pa_cons (pe_call G_draw (hr.mono (by decide)) (by rfl) T.g_draw T.F_draw.kp T.b_draw .nil pass0 (pa_cons (pv 0) (pa_cons pe_int pa_nil))) (pa_cons (pe_call G_draw (hr.mono (by decide)) (by rfl) T.g_draw T.F_draw.kp T.b_draw .nil pass0 (pa_cons (pv 0) (pa_cons pe_int pa_nil))) (pa_cons (pe_call G_draw (hr.mono (by decide)) (by rfl) T.g_draw T.F_draw.kp T.b_draw .nil pass0 (pa_cons (pv 0) (pa_cons pe_int pa_nil))) pa_nil)))) (pe_call G_draw (hr.mono (by decide)) (by rfl) T.g_draw T.F_draw.kp T.b_draw .nil pass0 (pa_cons (pv 0) (pa_cons pe_int pa_nil))) (fun _ _ => rfl)))), ?_⟩
    refine ⟨_, rfl, b, 3, rfl, hb, by decide, by decide, fun d1 H1 a0 a1 bx1 => ⟨_, rfl, b, 3, rfl, bx1.1, by decide, by decide, fun d2 H2 b0 b1 bx2 => ⟨_, rfl, b, 1000, rfl, bx2.1, by decide, by decide, fun d3 H3 c0 c1 bx3 => ⟨(by show 3 ≤ sizeLine; decide), fun p hp => ⟨_, rfl, b, 3, rfl, (bx3.same (same_new hp)).1, by decide, by decide, fun j H4 j0 j1 bx4 => ?_⟩⟩⟩⟩⟩
    have npb : p ≠ b := BagAt.ne bx3.1 hp
    obtain ⟨d1, rfl⟩ := Int.eq_ofNat_of_zero_le a0
    obtain ⟨d2, rfl⟩ := Int.eq_ofNat_of_zero_le b0
    obtain ⟨d3, rfl⟩ := Int.eq_ofNat_of_zero_le c0
    have bxA := ((bx1.trans bx2).trans bx3).same (same_new hp (o := .lst [V.int (d1 : Int), .int (d2 : Int), .int (d3 : Int)]))
    have hp4 := bx4.2 _ _ npb (upd_same (H := H3) (a := p) (o := .lst [V.int (d1 : Int), .int (d2 : Int), .int (d3 : Int)]))
    have : j = 0 ∨ j = 1 ∨ j = 2 := by omega
    rcases this with rfl | rfl | rfl
    · exact ⟨_, _, _, _, rfl, rfl, SqL.of hp4, atI_nat (j := 0) rfl, q d1 H4 (bxA.trans bx4)⟩
    · exact ⟨_, _, _, _, rfl, rfl, SqL.of hp4, atI_nat (j := 1) rfl, q d2 H4 (bxA.trans bx4)⟩
    · exact ⟨_, _, _, _, rfl, rfl, SqL.of hp4, atI_nat (j := 2) rfl, q d3 H4 (bxA.trans bx4)⟩
--SPLIT
/-! ### books are drawn -/
theorem cutV_upto' (xs : List V) (n : Nat) : cutV xs none (some (n : Int)) = xs.take n := by
  unfold cutV
  rw [HT.sIx_none, HT.sIx_nat]
  show (xs.drop 0).take (min n xs.length - 0) = _
  rw [List.drop_zero, Nat.sub_zero]
  by_cases h : n ≤ xs.length
  · rw [show min n xs.length = n from Nat.min_eq_left h]
  · rw [show min n xs.length = xs.length from Nat.min_eq_right (by omega), List.take_length, List.take_of_length_le (by omega)]
theorem cutV_from' (xs : List V) (n : Nat) : cutV xs (some (n : Int)) none = xs.drop n := by
  unfold cutV
  rw [HT.sIx_none, HT.sIx_nat]
  show (xs.drop (min n xs.length)).take (xs.length - min n xs.length) = _
  by_cases h : n ≤ xs.length
  · rw [show min n xs.length = n from Nat.min_eq_left h]
    exact List.take_of_length_le (by rw [List.length_drop]; omega)
  · rw [show min n xs.length = xs.length from Nat.min_eq_right (by omega), List.drop_eq_nil_of_le (Nat.le_refl _), List.drop_eq_nil_of_le (show xs.length ≤ n by omega), List.take_nil]
def wds : List Str := [Str.ofString "good", Str.ofString "rough", Str.ofString "refused", Str.ofString "unsure", Str.ofString "unsent", Str.ofString "unsent"]
theorem wds_ok : ∀ u ∈ wds, PyData.strOk u = true := by decide +kernel
theorem wds_at {j : Int} (h0 : 0 ≤ j) (h1 : j < 6) : ∃ u, atI (wds.map V.str) j = some (.str u) ∧ PyData.strOk u = true := by
  obtain ⟨k, rfl⟩ := Int.eq_ofNat_of_zero_le h0
  have hk : k < wds.length := by
    show k < 6
    omega
  refine ⟨wds[k], atI_nat ?_, wds_ok _ (List.getElem_mem hk)⟩
  rw [List.getElem?_map, List.getElem?_eq_getElem hk]
  rfl
theorem rgV_nat (d : Nat) : rgV 0 (d : Int) = (List.range d).map fun (i : Nat) => V.int (i : Int) := by
  unfold rgV
  rw [show ((d : Int) - 0).toNat = d by omega]
  refine List.map_congr_left fun i _ => ?_
  rw [Int.zero_add]
def spBook : Sp := fun vs H Q _ => ∃ (b na : Addr) (nms : List (List Nat)), vs = [.ref b, .ref na] ∧ BagAt H b ∧ na ≠ b ∧ H na = some (.lst (nms.map sV)) ∧ 1 ≤ nms.length ∧ nms.length ≤ 100 ∧ (∀ nm ∈ nms, Codes nm) ∧
  ∀ p vs rs H', H p = none → Bx b H H' → H' p = some (.lst vs) → BkAt H' vs rs → rs.length ≤ 24 → (∀ r ∈ rs, RwOk r) → Q (.ref p) H'
theorem ok_book {A : Ad} (T : Txt w K mg base A) : FnOk P w K mg base CX0 3 A.a_book A.d_book P_book spBook := by
  have G_draw := ok_draw (P := P) (w := w) (base := base) T
  have G_number := ok_number (P := P) (w := w) (base := base) T
  refine T.F_book.ok sc_book (fun vs H Q E h => ?_) (fun cdv Ar outer s H vs Q E hr h => ?_)
  · obtain ⟨b, na, nms, rfl, _⟩ := h
    rfl
  · obtain ⟨b, na, nms, rfl, hb, nab, hna, n1, n100, cn, q⟩ := h
    refine ⟨_, (pss_cons (ps_set (i := 2) sc_book.nd rfl (Or.inl rfl) (pe_lstW (pa_cons pe_str (pa_cons pe_str (pa_cons pe_str (pa_cons pe_str (pa_cons pe_str (pa_cons pe_str pa_nil))))))))
      (pss_cons (ps_set (i := 3) sc_book.nd rfl (Or.inl rfl) (pe_lstW pa_nil))
      (pss_cons (ps_for PassesOwn.never rfl (pi_range1 (by rfl) T.z_range (pa_cons (pe_call G_draw (hr.mono (by decide)) (by rfl) T.g_draw T.F_draw.kp T.b_draw .nil pass0 (pa_cons (pv 0) (pa_cons pe_int pa_nil))) pa_nil)) (pg_name (i := 4) sc_book.nd rfl (Or.inl rfl))
      (pss_cons (ps_set (i := 5) sc_book.nd rfl (Or.inl rfl) (pe_call G_draw (hr.mono (by decide)) (by rfl) T.g_draw T.F_draw.kp T.b_draw .nil pass0 (pa_cons (pv 0) (pa_cons pe_int pa_nil))))
      (pss_cons (ps_set (i := 6) sc_book.nd rfl (Or.inl rfl) (pe_ix (r := rIxL K) ix_list (pv 1) (pe_op op_mod (pe_call G_draw (hr.mono (by decide)) (by rfl) T.g_draw T.F_draw.kp T.b_draw .nil pass0 (pa_cons (pv 0) (pa_cons (pe_op op_add (pe_callB (r := fun xs H Q => ∃ p ys, xs = [.ref p] ∧ (SqL K H p ys ∨ SqT K H p ys) ∧ Q (.int ys.length) H) call_len_seq (by rfl) T.z_len PySem.boot_len (pa_cons (pv 1) pa_nil)) pe_int) pa_nil))) (pe_callB (r := fun xs H Q => ∃ p ys, xs = [.ref p] ∧ (SqL K H p ys ∨ SqT K H p ys) ∧ Q (.int ys.length) H) call_len_seq (by rfl) T.z_len PySem.boot_len (pa_cons (pv 1) pa_nil))) (fun _ _ => rfl)))
      (pss_cons (ps_set (i := 7) sc_book.nd rfl (Or.inl rfl) (pe_call G_number (hr.mono (by decide)) (by rfl) T.g_number T.F_number.kp T.b_number .nil pass0 (pa_cons (pv 0) pa_nil)))
      (pss_one (ps_if (pt_cmpR op_eq (pv 5) pe_int (nomark _))
      (pss_one (ps_expr (pe_bm PySem.F.plainAttrs_list PySem.F.slot_list_append PySem.F.type_list_append mt_append (pv 3) (pa_cons (pe_tupW (pa_cons pe_str (pa_cons (pv 7) (pa_cons (pv 6) (pa_cons (pe_callTy call_tuple_of (by rfl) T.z_tuple (by decide +kernel) (pa_cons (pe_slice sl_list (pv 1) po_none (po_some (pe_call G_draw (hr.mono (by decide)) (by rfl) T.g_draw T.F_draw.kp T.b_draw .nil pass0 (pa_cons (pv 0) (pa_cons pe_int pa_nil))))) pa_nil)) pa_nil))))) pa_nil)))) (pss_one (ps_if (pt_cmpR op_eq (pv 5) pe_int (nomark _))
      (pss_one (ps_expr (pe_bm PySem.F.plainAttrs_list PySem.F.slot_list_append PySem.F.type_list_append mt_append (pv 3) (pa_cons (pe_tupW (pa_cons pe_str (pa_cons (pe_tupW (pa_cons (pv 6) (pa_cons (pv 7) pa_nil))) (pa_cons (pe_tupRg (by rfl) (by rfl) T.z_tuple (prg_1 (by rfl) T.z_range (pe_call G_draw (hr.mono (by decide)) (by rfl) T.g_draw T.F_draw.kp T.b_draw .nil pass0 (pa_cons (pv 0) (pa_cons pe_int pa_nil))))) pa_nil)))) pa_nil)))) (pss_one (ps_expr (pe_bm PySem.F.plainAttrs_list PySem.F.slot_list_append PySem.F.type_list_append mt_append (pv 3) (pa_cons (pe_tupW (pa_cons pe_str (pa_cons (pv 7) (pa_cons (pv 6) (pa_cons (pe_ix (r := rIxL K) ix_list (pv 2) (pe_call G_draw (hr.mono (by decide)) (by rfl) T.g_draw T.F_draw.kp T.b_draw .nil pass0 (pa_cons (pv 0) (pa_cons pe_int pa_nil))) (fun _ _ => rfl)) pa_nil))))) pa_nil))))))))))))
      (pss_one (ps_ret (pv 3)))))), ?_⟩
    refine ⟨(by show 6 ≤ 100000; decide), fun wa H1 nwa s1 hwa => ⟨(by show 0 ≤ 100000; decide), fun p H2 np s2 hp => ?_⟩⟩
    have hwa : H1 wa = some (.lst (wds.map V.str)) := hwa
    have hpn : H p = none := by
      cases e : H p with
      | none => rfl
      | some u =>
        rw [s1 _ _ e] at np
        cases np
    have wab : wa ≠ b := BagAt.ne hb nwa
    have pb : p ≠ b := BagAt.ne hb hpn
    have bx2 := ((Bx.refl hb).same s1).same s2
    refine ⟨_, rfl, b, 25, rfl, bx2.1, by decide, by decide, fun d H3 d0 d1 bx3 => ?_⟩
    obtain ⟨d, rfl⟩ := Int.eq_ofNat_of_zero_le d0
    refine ⟨_, rfl, by omega, by omega, ?_⟩
    rw [Int.toNat_natCast]
    have bx03 := bx2.trans bx3
    have hwa3 := bx3.2 _ _ wab (s2 _ _ hwa)
    have hp3 := bx3.2 _ _ pb hp
    have lm : (nms.map sV).length = nms.length := List.length_map ..
    refine for_range (lo := 0) (n := d) (fun i σ H' => ∃ (vs : List V) (rs : List Rw) (y4 y5 y6 y7 : Option V), σ = [some (.ref b), some (.ref na), some (.ref wa), some (.ref p), y4, y5, y6, y7] ∧ Bx b H H' ∧ H' wa = some (.lst (wds.map V.str)) ∧ H' p = some (.lst vs) ∧ BkAt H' vs rs ∧ rs.length = i ∧ ∀ r ∈ rs, RwOk r) ⟨[], [], none, none, none, none, rfl, bx03, hwa3, hp3, trivial, rfl, fun _ h => nomatch h⟩ ?_ ?_
    · rintro i σ G1 hi ⟨vs, rs, y4, y5, y6, y7, rfl, bx, hw1, hp1, bk, lr, okr⟩
      refine ⟨_, rfl, b, 3, rfl, bx.1, by decide, by decide, fun w2 G2 w0 w1 bxA => ?_⟩
      have bx2 := bx.trans bxA
      have hna2 := bx2.2 _ _ nab hna
      refine ⟨_, rfl, _, rfl, _, rfl, _, _, rfl, .inl (SqL.of hna2), _, _, rfl, rfl, b, _, rfl, bx2.1, by omega, by omega, fun e G3 e0 e1 bxB => ?_⟩
      have bx3 := bx2.trans bxB
      have hna3 := bx3.2 _ _ nab hna
      have em0 := Int.emod_nonneg e (show ((nms.map sV).length : Int) ≠ 0 by omega)
      have em1 := Int.emod_lt_of_pos e (show (0 : Int) < ((nms.map sV).length : Int) by omega)
      obtain ⟨j, hj⟩ := Int.eq_ofNat_of_zero_le em0
      have jl : j < nms.length := by omega
      refine ⟨_, rfl, _, _, rfl, .inl (SqL.of hna3), _, _, rfl, rfl, (by omega), _, _, _, .str (sOf nms[j]), rfl, rfl, SqL.of hna3, (by rw [hj]; exact atI_nat (by rw [List.getElem?_map, List.getElem?_eq_getElem jl]; rfl)), ?_⟩
      have cj := cn _ (List.getElem_mem jl)
      refine ⟨_, rfl, b, rfl, bx3.1, fun n G4 bxC => ?_⟩
      have bx4 := bx3.trans bxC
      have bx14 := (bxA.trans bxB).trans bxC
      have hp4 := bx14.2 _ _ pb hp1
      have hw4 := bx14.2 _ _ wab hw1
      have hna4 := bx4.2 _ _ nab hna
      have bk4 := bk.mono (KeepsT.bx bx.1 bx14)
      have lvs := bk.len
      have fin : ∀ (r : Rw) (t : Addr) (G5 G6 : Hp) (y4 y5 y6 y7 : Option V), Bx b G4 G5 → RwAt G5 (.ref t) r → RwOk r → G6 = upd G5 p (.lst (vs ++ [.ref t])) → ∃ (vs : List V) (rs : List Rw) (z4 z5 z6 z7 : Option V), [some (V.ref b), some (.ref na), some (.ref wa), some (.ref p), y4, y5, y6, y7] = [some (.ref b), some (.ref na), some (.ref wa), some (.ref p), z4, z5, z6, z7] ∧ Bx b H G6 ∧ G6 wa = some (.lst (wds.map V.str)) ∧ G6 p = some (.lst vs) ∧ BkAt G6 vs rs ∧ rs.length = i + 1 ∧ ∀ r ∈ rs, RwOk r := by
        intro r t G5 G6 y4 y5 y6 y7 bxD ra ok e
        subst e
        have kp : KeepsT G5 (upd G5 p (.lst (vs ++ [.ref t]))) := fun c xs hc => by
          have cp : c ≠ p := fun z => by
            rw [z, bxD.2 _ _ pb hp4] at hc
            cases hc
          rw [upd_ne cp]
          exact hc
        have wp : wa ≠ p := fun z => by
          have := s2 _ _ hwa
          rw [z] at hwa
          rw [np] at hwa
          cases hwa
        refine ⟨_, rs ++ [r], _, _, _, _, rfl, (bx4.trans bxD).mut hpn pb, by rw [upd_ne wp]; exact bxD.2 _ _ wab hw4, upd_same, BkAt.app (ws := [.ref t]) (ts := [r]) ⟨ra.mono kp, trivial⟩ (bk4.mono ((KeepsT.bx bx4.1 bxD).trans kp)), by rw [List.length_append, lr]; rfl, fun x hx => ?_⟩
        rcases List.mem_append.mp hx with z | z
        · exact okr x z
        · rw [List.mem_singleton.mp z]
          exact ok
      refine ⟨_, rfl, rfl, _, rfl, ite2 (fun z => ?_) (fun z => ?_)⟩
      · -- kept
        refine ⟨_, rfl, .inl ⟨rfl, _, SqL.of hp4⟩, _, rfl, _, rfl, _, rfl, _, rfl, b, 3, rfl, bx4.1, by decide, by decide, fun k G5 k0 k1 bxD => ?_⟩
        obtain ⟨k, rfl⟩ := Int.eq_ofNat_of_zero_le k0
        refine ⟨_, rfl, _, _, rfl, SqL.of (bxD.2 _ _ nab hna4), fun q1 hq1 => ⟨q1, _, rfl, .inl ⟨SqL.of upd_same, fun e1 he1 => ⟨(by show 4 ≤ 100000; decide), fun t G6 nt s6 ht => ?_⟩⟩⟩⟩
        have hpE := same_new he1 (o := .tup (cutV (nms.map sV) none (some (k : Int)))) _ _ (same_new hq1 (o := .lst (cutV (nms.map sV) none (some (k : Int)))) _ _ (bxD.2 _ _ pb hp4))
        refine ⟨p, _, _, rfl, rfl, s6 _ _ hpE, szl (by omega), ?_⟩
        refine fin (.kept n nms[j] (nms.take k)) t G6 _ _ _ _ _ (((bxD.same (same_new hq1)).same (same_new he1)).same s6) ⟨t, e1, rfl, ht, ?_⟩ ⟨cj, fun e he => cn e (List.mem_of_mem_take he)⟩ rfl
        rw [s6 _ _ upd_same, cutV_upto', ← List.map_take]
      · refine ⟨_, rfl, rfl, _, rfl, ite2 (fun z2 => ?_) (fun z2 => ?_)⟩
        · -- had
          refine ⟨_, rfl, .inl ⟨rfl, _, SqL.of hp4⟩, _, rfl, _, rfl, (by show 2 ≤ 100000; decide), fun kk G5 nk s5 hkk => ⟨_, rfl, b, 3, rfl, ((Bx.refl bx4.1).same s5).1, by decide, by decide, fun k G6 k0 k1 bxD => ?_⟩⟩
          obtain ⟨k, rfl⟩ := Int.eq_ofNat_of_zero_le k0
          have bx46 := ((Bx.refl bx4.1).same s5).trans bxD
          refine ⟨_, rfl, RgOk.of_le (by omega) (by omega) (by omega) (by omega), fun e1 he1 => ⟨(by show 3 ≤ 100000; decide), fun t G7 nt s7 ht => ?_⟩⟩
          refine ⟨p, _, _, rfl, rfl, s7 _ _ (same_new he1 _ _ (bx46.2 _ _ pb hp4)), szl (by omega), ?_⟩
          refine fin (.had nms[j] n (List.range k)) t G7 _ _ _ _ _ ((bx46.same (same_new he1)).same s7) ⟨t, kk, e1, rfl, ht, ?_, ?_⟩ cj rfl
          · exact s7 _ _ (same_new he1 _ _ (bxD.2 _ _ (BagAt.tup (((Bx.refl bx4.1).same s5).1) hkk) hkk))
          · rw [s7 _ _ upd_same, rgV_nat]
        · -- told
          refine ⟨_, rfl, .inl ⟨rfl, _, SqL.of hp4⟩, _, rfl, _, rfl, _, rfl, _, rfl, b, 6, rfl, bx4.1, by decide, by decide, fun k G5 k0 k1 bxD => ?_⟩
          obtain ⟨u, hu, ou⟩ := wds_at k0 k1
          refine ⟨_, _, _, _, rfl, rfl, SqL.of (bxD.2 _ _ wab hw4), hu, (by show 4 ≤ 100000; decide), fun t G6 nt s6 ht => ?_⟩
          refine ⟨p, _, _, rfl, rfl, s6 _ _ (bxD.2 _ _ pb hp4), szl (by omega), ?_⟩
          exact fin (.told n nms[j] u) t G6 _ _ _ _ _ (bxD.same s6) ⟨t, rfl, ht⟩ ⟨cj, ou⟩ rfl
    · rintro σ G1 ⟨vs, rs, y4, y5, y6, y7, rfl, bx, hw1, hp1, bk, lr, okr⟩
      exact ⟨_, rfl, q p vs rs G1 hpn bx hp1 bk (by omega) okr⟩
--SPLIT
/-! ### a book with a row of another machine -/
def spMore : Sp := fun vs H Q _ => ∃ (b a : Addr) (bvs : List V) (bk : List Rw) (st : List Nat), vs = [.ref b, .ref a, .str (sOf st)] ∧ BagAt H b ∧ a ≠ b ∧ H a = some (.lst bvs) ∧ BkAt H bvs bk ∧ bk.length ≤ 100 ∧ Codes st ∧
  ∀ p vs (pl : Nat) r H', H p = none → Bx b H H' → H' p = some (.lst vs) → BkAt H' vs (bk.take pl ++ r :: bk.drop pl) → RwOk r → nmOf r = st → Q (.ref p) H'
theorem ok_more {A : Ad} (T : Txt w K mg base A) : FnOk P w K mg base CX0 3 A.a_more A.d_more P_more spMore := by
  have G_draw := ok_draw (P := P) (w := w) (base := base) T
  have G_number := ok_number (P := P) (w := w) (base := base) T
  refine T.F_more.ok sc_more (fun vs H Q E h => ?_) (fun cdv Ar outer s H vs Q E hr h => ?_)
  · obtain ⟨b, a, bvs, bk, st, rfl, _⟩ := h
    rfl
  · obtain ⟨b, a, bvs, bk, st, rfl, hb, nab, ha, hbk, lb, cs, q⟩ := h
    refine ⟨_, (pss_cons (ps_set (i := 3) sc_more.nd rfl (Or.inl rfl) (pe_call G_draw (hr.mono (by decide)) (by rfl) T.g_draw T.F_draw.kp T.b_draw .nil pass0 (pa_cons (pv 0) (pa_cons (pe_op op_add (pe_callB (r := fun xs H Q => ∃ p ys, xs = [.ref p] ∧ (SqL K H p ys ∨ SqT K H p ys) ∧ Q (.int ys.length) H) call_len_seq (by rfl) T.z_len PySem.boot_len (pa_cons (pv 1) pa_nil)) pe_int) pa_nil))))
      (pss_cons (ps_set (i := 4) sc_more.nd rfl (Or.inl rfl) (pe_call G_number (hr.mono (by decide)) (by rfl) T.g_number T.F_number.kp T.b_number .nil pass0 (pa_cons (pv 0) pa_nil)))
      (pss_cons (ps_set (i := 5) sc_more.nd rfl (Or.inl rfl) (pe_lstW (pa_cons (pe_tupW (pa_cons pe_str (pa_cons (pv 4) (pa_cons (pv 2) (pa_cons (pe_tupW pa_nil) pa_nil))))) (pa_cons (pe_tupW (pa_cons pe_str (pa_cons (pe_tupW (pa_cons (pv 2) (pa_cons (pv 4) pa_nil))) (pa_cons (pe_tupW pa_nil) pa_nil)))) (pa_cons (pe_tupW (pa_cons pe_str (pa_cons (pv 4) (pa_cons (pv 2) (pa_cons pe_str pa_nil))))) pa_nil)))))
      (pss_one (ps_ret (pe_op op_catLW (pe_op op_catLW (pe_slice sl_list (pv 1) po_none (po_some (pv 3))) (pe_lstW (pa_cons (pe_ix (r := rIxL K) ix_list (pv 5) (pe_call G_draw (hr.mono (by decide)) (by rfl) T.g_draw T.F_draw.kp T.b_draw .nil pass0 (pa_cons (pv 0) (pa_cons pe_int pa_nil))) (fun _ _ => rfl)) pa_nil))) (pe_slice sl_list (pv 1) (po_some (pv 3)) po_none))))))), ?_⟩
    have lv := hbk.len
    refine ⟨_, rfl, _, rfl, _, _, rfl, .inl (SqL.of ha), _, _, rfl, rfl, b, _, rfl, hb, by omega, by omega, fun pl H1 p0 p1 bx1 => ?_⟩
    obtain ⟨pl, rfl⟩ := Int.eq_ofNat_of_zero_le p0
    refine ⟨_, rfl, b, rfl, bx1.1, fun n H2 bx2 => ?_⟩
    have bx02 := bx1.trans bx2
    refine ⟨_, rfl, _, rfl, (by show 0 ≤ 100000; decide), fun e1 G1 ne1 s1 he1 => ⟨(by show 4 ≤ 100000; decide), fun t1 G2 nt1 s2 ht1 => ?_⟩⟩
    refine ⟨_, rfl, _, rfl, (by show 2 ≤ 100000; decide), fun kk G3 nk s3 hkk => ⟨(by show 0 ≤ 100000; decide), fun e2 G4 ne2 s4 he2 => ⟨(by show 3 ≤ 100000; decide), fun t2 G5 nt2 s5 ht2 => ?_⟩⟩⟩
    refine ⟨_, rfl, _, rfl, (by show 4 ≤ 100000; decide), fun t3 G6 nt3 s6 ht3 => ⟨(by show 3 ≤ 100000; decide), fun ra G7 nra s7 hra => ?_⟩⟩
    have s27 : Same H2 G7 := ((((((s1.trans s2).trans s3).trans s4).trans s5).trans s6).trans s7)
    have bx07 := bx02.same s27
    have rab : ra ≠ b := BagAt.ne (bx02.same (((((s1.trans s2).trans s3).trans s4).trans s5).trans s6)).1 nra
    have r1 : RwAt G7 (.ref t1) (.kept n st []) := ⟨t1, e1, rfl, ((((s3.trans s4).trans s5).trans s6).trans s7) _ _ ht1, (((((s2.trans s3).trans s4).trans s5).trans s6).trans s7) _ _ he1⟩
    have r2 : RwAt G7 (.ref t2) (.had st n []) := ⟨t2, kk, e2, rfl, (s6.trans s7) _ _ ht2, (((s4.trans s5).trans s6).trans s7) _ _ hkk, ((s5.trans s6).trans s7) _ _ he2⟩
    have r3 : RwAt G7 (.ref t3) (.told n st (Str.ofString "good")) := ⟨t3, rfl, s7 _ _ ht3⟩
    have ha7 := bx07.2 _ _ nab ha
    refine ⟨_, rfl, _, rfl, _, rfl, _, _, rfl, SqL.of ha7, fun p1 hp1 => ?_⟩
    rw [cutV_upto']
    have bx8 := bx07.same (same_new hp1 (o := .lst (bvs.take pl)))
    have hra8 := same_new hp1 (o := .lst (bvs.take pl)) _ _ hra
    have p1b : p1 ≠ b := BagAt.ne bx07.1 hp1
    refine ⟨_, rfl, _, rfl, b, 3, rfl, bx8.1, by decide, by decide, fun d G8 d0 d1 bx9 => ?_⟩
    have bx09 := bx8.trans bx9
    have hra9 := bx9.2 _ _ rab hra8
    have hp19 := bx9.2 _ _ p1b (upd_same (H := G7) (a := p1) (o := .lst (bvs.take pl)))
    have kp79 : KeepsT G7 G8 := (KeepsT.of (same_new hp1)).trans (KeepsT.bx bx8.1 bx9)
    have hbk9 := hbk.mono (KeepsT.bx hb bx09)
    have pick : ∃ (t : Addr) (r : Rw), RwAt G8 (.ref t) r ∧ RwOk r ∧ nmOf r = st ∧ atI [V.ref t1, .ref t2, .ref t3] d = some (.ref t) := by
      have : d = 0 ∨ d = 1 ∨ d = 2 := by omega
      rcases this with rfl | rfl | rfl
      · exact ⟨t1, _, r1.mono kp79, ⟨cs, fun _ h => nomatch h⟩, rfl, rfl⟩
      · exact ⟨t2, _, r2.mono kp79, cs, rfl, rfl⟩
      · exact ⟨t3, _, r3.mono kp79, ⟨cs, by decide +kernel⟩, rfl, rfl⟩
    obtain ⟨t, r, hr, okr, nr, hat⟩ := pick
    refine ⟨_, _, _, _, rfl, rfl, SqL.of hra9, hat, (by show 1 ≤ 100000; decide), fun q2 G9 nq2 s9 hq2 => ?_⟩
    refine ⟨p1, q2, _, _, rfl, rfl, s9 _ _ hp19, hq2, ?_, fun q3 G10 nq3 s10 hq3 => ?_⟩
    · rw [List.length_take]
      show _ + 1 ≤ _
      omega
    have bx10 := (bx09.same s9).same s10
    have ha10 := bx10.2 _ _ nab ha
    refine ⟨_, rfl, _, rfl, _, rfl, _, _, rfl, SqL.of ha10, fun p4 hp4 => ?_⟩
    rw [cutV_from']
    refine ⟨q3, p4, _, _, rfl, rfl, by rw [upd_ne (ne_of_none hq3 hp4)]; exact hq3, upd_same, ?_, fun q5 G12 nq5 s12 hq5 => ?_⟩
    · rw [List.length_append, List.length_take, List.length_drop]
      show _ + 1 + _ ≤ _
      omega
    have bx12 := (bx10.same (same_new hp4 (o := .lst (bvs.drop pl)))).same s12
    have kp : KeepsT G8 G12 := KeepsT.of (((s9.trans s10).trans (same_new hp4)).trans s12)
    refine q q5 _ pl r G12 ?_ bx12 hq5 ?_ okr nr
    · exact bx10.free (by
        have : (upd G10 p4 (.lst (bvs.drop pl))) q5 = none := nq5
        by_cases z : q5 = p4
        · rw [z, upd_same] at this
          cases this
        · rw [upd_ne z] at this
          exact this)
    · rw [List.append_assoc]
      exact BkAt.app (ws := .ref t :: bvs.drop pl) (ts := r :: bk.drop pl) ⟨hr.mono kp, (hbk9.mono kp).drop pl⟩ ((hbk9.mono kp).take pl)
--SPLIT
theorem list_yes : PySem.W.kitOne K (.type "list") (.type "list") = some true := kit_ty (by decide +kernel)
theorem four_names {nms : List (List Nat)} (h : nms.length = 4) : ∃ a b c d, nms = [a, b, c, d] := by
  match nms, h with
  | [a, b, c, d], _ => exact ⟨a, b, c, d, rfl⟩
theorem bk_ok {rs : List Rw} (h : ∀ r ∈ rs, RwOk r) : DOk (.list (rs.map rwD)) 3 := DOk.list (n := 2) fun r hr => rwD_ok (h r hr)
def spLaw (K : PySem.W.Frag) : Sp := fun vs H Q _ => ∃ (a : Addr) (ns : List Int), vs = [.ref a] ∧ SqL K H a (ns.map V.int) ∧ ns.length ≤ 63 ∧ ∀ H', Q (.bl true) H'
theorem ok_law {A : Ad} (T : Txt w K mg base A) : FnOk P w K mg base CX0 4 A.a_law A.d_law P_law (spLaw K) := by
  have G_bag := ok_bag (P := P) (w := w) (base := base) T
  have G_names_drawn := ok_names_drawn (P := P) (w := w) (base := base) T
  have G_due := ok_due (P := P) (w := w) (base := base) T
  have G_stories := ok_stories (P := P) (w := w) (base := base) T
  have G_book := ok_book (P := P) (w := w) (base := base) T
  have G_more := ok_more (P := P) (w := w) (base := base) T
  refine T.F_law.ok sc_law (fun vs H Q E h => ?_) (fun cdv Ar outer s H vs Q E hr h => ?_)
  · obtain ⟨a, ns, rfl, _⟩ := h
    rfl
  · obtain ⟨a, ns, rfl, hS, ln, q⟩ := h
    refine ⟨_, (pss_cons (ps_for PassesOwn.never rfl (pi_range1 (by rfl) T.z_range (pa_cons (pe_callB (call_max2 rfl) (by rfl) T.z_max (by decide +kernel) (pa_cons pe_int (pa_cons (pe_callB (call_min2 rfl) (by rfl) T.z_min (by decide +kernel) (pa_cons pe_int (pa_cons (pe_callB (r := fun xs H Q => ∃ p ys, xs = [.ref p] ∧ (SqL K H p ys ∨ SqT K H p ys) ∧ Q (.int ys.length) H) call_len_seq (by rfl) T.z_len PySem.boot_len (pa_cons (pv 0) pa_nil)) pa_nil))) pa_nil))) pa_nil)) (pg_name (i := 1) sc_law.nd rfl (Or.inl rfl))
      (pss_cons (ps_set (i := 2) sc_law.nd rfl (Or.inl rfl) (pe_call G_bag (hr.mono (by decide)) (by rfl) T.g_bag T.F_bag.kp T.b_bag .nil pass0 (pa_cons (pv 0) (pa_cons (pv 1) pa_nil))))
      (pss_cons (ps_set (i := 3) sc_law.nd rfl (Or.inl rfl) (pe_call G_names_drawn (hr.mono (by decide)) (by rfl) T.g_names_drawn T.F_names_drawn.kp T.b_names_drawn .nil pass0 (pa_cons (pv 2) (pa_cons pe_int pa_nil))))
      (pss_cons (ps_par3 (i := 4) (j := 5) (l := 6) (by rfl) sc_law.nd rfl rfl rfl (by decide) (by decide) (by decide) rfl rfl rfl (pa_cons (pe_ix (r := rIxL K) ix_list (pv 3) pe_int (fun _ _ => rfl)) (pa_cons (pe_ix (r := rIxL K) ix_list (pv 3) pe_int (fun _ _ => rfl)) (pa_cons (pe_ix (r := rIxL K) ix_list (pv 3) pe_int (fun _ _ => rfl)) pa_nil))) (by rfl))
      (pss_cons (ps_par (i := 7) (j := 8) (by rfl) sc_law.nd rfl rfl (by decide) rfl rfl (pa_cons (pe_call G_book (hr.mono (by decide)) (by rfl) T.g_book T.F_book.kp T.b_book .nil pass0 (pa_cons (pv 2) (pa_cons (pe_lstW (pa_cons (pv 5) (pa_cons (pe_ix (r := rIxL K) ix_list (pv 3) pe_int (fun _ _ => rfl)) (pa_cons (pv 5) pa_nil)))) pa_nil))) (pa_cons (pe_call G_book (hr.mono (by decide)) (by rfl) T.g_book T.F_book.kp T.b_book .nil pass0 (pa_cons (pv 2) (pa_cons (pe_lstW (pa_cons (pv 4) (pa_cons (pe_ix (r := rIxL K) ix_list (pv 3) pe_int (fun _ _ => rfl)) (pa_cons (pv 4) pa_nil)))) pa_nil))) pa_nil)) (by rfl))
      (pss_cons (ps_set (i := 9) sc_law.nd rfl (Or.inl rfl) (pe_call G_due (hr.mono (by decide)) (by rfl) T.g_due T.F_due.kp T.b_due .nil pass0 (pa_cons (pv 4) (pa_cons (pv 5) (pa_cons (pv 7) (pa_cons (pv 8) pa_nil))))))
      (pss_cons (ps_par (i := 10) (j := 11) (by rfl) sc_law.nd rfl rfl (by decide) rfl rfl (pa_cons (pe_callTy call_list_ofW (by rfl) T.z_list (by decide +kernel) (pa_cons (pv 7) pa_nil)) (pa_cons (pe_callTy call_list_ofW (by rfl) T.z_list (by decide +kernel) (pa_cons (pv 8) pa_nil)) pa_nil)) (by rfl))
      (pss_cons (ps_set (i := 12) sc_law.nd rfl (Or.inl rfl) (pe_call G_stories (hr.mono (by decide)) (by rfl) T.g_stories T.F_stories.kp T.b_stories .nil pass0 (pa_cons (pv 4) (pa_cons (pv 5) (pa_cons (pv 10) (pa_cons (pv 11) pa_nil))))))
      (pss_cons (ps_if (PW.pt (pw_or (pt_not (pt_val (pe_callB (r := rIsi K) call_isi (by rfl) T.z_isinstance (by decide +kernel) (pa_cons (pv 12) (pa_cons (pe_bltn (v := .ty "list") (by rfl) T.z_list (by decide +kernel) rfl) pa_nil))))) (pw_or (pt_cmpR (r := rNeD K) (op_neD hr.units) (pv 12) (pv 9) (nomark _)) (pw_or (pt_cmpR (r := rNeD K) (op_neD hr.units) (pv 10) (pv 7) (nomark _)) (pw_or1 (pt_cmpR (r := rNeD K) (op_neD hr.units) (pv 11) (pv 8) (nomark _)))))))
      (pss_one (ps_ret pe_bl)) pss_nil)
      (pss_cons (ps_expr (pe_bm0 PySem.F.plainAttrs_list PySem.F.slot_list_clear PySem.F.type_list_clear mt_clear (pv 12)))
      (pss_cons (ps_if (pt_cmpR (r := rNeD K) (op_neD hr.units) (pe_call G_stories (hr.mono (by decide)) (by rfl) T.g_stories T.F_stories.kp T.b_stories .nil pass0 (pa_cons (pv 4) (pa_cons (pv 5) (pa_cons (pv 7) (pa_cons (pv 8) pa_nil))))) (pv 9) (nomark _))
      (pss_one (ps_ret pe_bl)) pss_nil)
      (pss_cons (ps_if (pt_cmpR (r := rNeD K) (op_neD hr.units) (pe_call G_stories (hr.mono (by decide)) (by rfl) T.g_stories T.F_stories.kp T.b_stories .nil pass0 (pa_cons (pv 4) (pa_cons (pe_ix (r := rIxL K) ix_list (pv 3) pe_int (fun _ _ => rfl)) (pa_cons (pv 7) (pa_cons (pv 8) pa_nil))))) (pe_call G_due (hr.mono (by decide)) (by rfl) T.g_due T.F_due.kp T.b_due .nil pass0 (pa_cons (pv 4) (pa_cons (pe_ix (r := rIxL K) ix_list (pv 3) pe_int (fun _ _ => rfl)) (pa_cons (pv 7) (pa_cons (pv 8) pa_nil))))) (nomark _))
      (pss_one (ps_ret pe_bl)) pss_nil)
      (pss_cons (ps_par (i := 7) (j := 8) (by rfl) sc_law.nd rfl rfl (by decide) rfl rfl (pa_cons (pe_call G_more (hr.mono (by decide)) (by rfl) T.g_more T.F_more.kp T.b_more .nil pass0 (pa_cons (pv 2) (pa_cons (pv 7) (pa_cons (pv 6) pa_nil)))) (pa_cons (pe_call G_more (hr.mono (by decide)) (by rfl) T.g_more T.F_more.kp T.b_more .nil pass0 (pa_cons (pv 2) (pa_cons (pv 8) (pa_cons (pv 6) pa_nil)))) pa_nil)) (by rfl))
      (pss_cons (ps_if (pt_cmpR (r := rNeD K) (op_neD hr.units) (pe_call G_stories (hr.mono (by decide)) (by rfl) T.g_stories T.F_stories.kp T.b_stories .nil pass0 (pa_cons (pv 4) (pa_cons (pv 5) (pa_cons (pv 7) (pa_cons (pv 8) pa_nil))))) (pv 9) (nomark _))
      (pss_one (ps_ret pe_bl)) pss_nil)
      (pss_one (ps_if (pt_cmpR (r := rNeD K) (op_neD hr.units) (pe_call G_stories (hr.mono (by decide)) (by rfl) T.g_stories T.F_stories.kp T.b_stories .nil pass0 (pa_cons (pv 5) (pa_cons (pv 4) (pa_cons (pv 8) (pa_cons (pv 7) pa_nil))))) (pe_call G_due (hr.mono (by decide)) (by rfl) T.g_due T.F_due.kp T.b_due .nil pass0 (pa_cons (pv 5) (pa_cons (pv 4) (pa_cons (pv 8) (pa_cons (pv 7) pa_nil))))) (nomark _))
      (pss_one (ps_ret pe_bl)) pss_nil))))))))))))))))
      (pss_one (ps_ret pe_bl))), ?_⟩
    refine ⟨_, rfl, _, _, rfl, .inl hS, _, _, rfl, _, _, rfl, _, rfl, ?_, ?_, for_range (fun i σ H' => ∃ y1 y2 y3 y4 y5 y6 y7 y8 y9 y10 y11 y12, σ = [some (.ref a), y1, y2, y3, y4, y5, y6, y7, y8, y9, y10, y11, y12] ∧ Same H H') ⟨none, none, none, none, none, none, none, none, none, none, none, none, rfl, Same.refl _⟩ ?_ ?_⟩
    · rw [List.length_map]
      split <;> split <;> omega
    · rw [List.length_map]
      split <;> split <;> omega
    · rintro i σ H2 hi ⟨y1, y2, y3, y4, y5, y6, y7, y8, y9, y10, y11, y12, rfl, e2⟩
      have hi8 : i < 8 := by
        rw [List.length_map] at hi
        revert hi
        split <;> split <;> omega
      refine ⟨_, rfl, _, rfl, a, ns, _, rfl, e2.seq hS, by omega, by omega, fun b g s hb g0 s0 s1 => ?_⟩
      have B0 : BagAt (upd H2 b (.lst [.int g, .int s])) b := BagAt.new g0 s0 s1
      have sB : Same H2 (upd H2 b (.lst [.int g, .int s])) := same_new hb
      generalize upd H2 b (.lst [.int g, .int s]) = G0 at B0 sB
      refine ⟨_, rfl, b, 4, rfl, B0, by decide, fun na f nms G1 nna bx1 hna ln4 hnm => ?_⟩
      have nab : na ≠ b := BagAt.ne B0 nna
      obtain ⟨n0, n1, n2, n3, rfl⟩ := four_names ln4
      obtain ⟨⟨c0, _⟩, hd0⟩ := hnm 0 n0 rfl
      obtain ⟨⟨c1, _⟩, hd1⟩ := hnm 1 n1 rfl
      obtain ⟨⟨c2, _⟩, hd2⟩ := hnm 2 n2 rfl
      obtain ⟨⟨c3, _⟩, hd3⟩ := hnm 3 n3 rfl
      have d30 : n3 ≠ n0 := fun z => by
        rw [z, hd0] at hd3
        have := Option.some.inj hd3
        omega
      have d31 : n3 ≠ n1 := fun z => by
        rw [z, hd1] at hd3
        have := Option.some.inj hd3
        omega
      have hna' : G1 na = some (.lst [sV n0, sV n1, sV n2, sV n3]) := hna
      refine ⟨_, rfl, _, _, _, sV n0, rfl, rfl, SqL.of hna', atI_nat (j := 0) rfl, _, rfl, _, _, _, sV n1, rfl, rfl, SqL.of hna', atI_nat (j := 1) rfl, _, rfl, _, _, _, sV n3, rfl, rfl, SqL.of hna', atI_nat (j := 3) rfl, _, _, _, rfl, ?_⟩
      -- two books
      refine ⟨_, rfl, _, rfl, _, rfl, _, _, _, sV n2, rfl, rfl, SqL.of hna', atI_nat (j := 2) rfl, _, rfl, (by show 3 ≤ 100000; decide), fun q1 G2 nq1 s2 hq1 => ?_⟩
      have bx2 := bx1.same s2
      refine ⟨b, q1, [n1, n2, n1], rfl, bx2.1, BagAt.ne bx1.1 nq1, hq1, (by show 1 ≤ 3; decide), (by show 3 ≤ 100; decide), ?_, fun bp bvs bk G3 nbp bx3 hbp hbk lbk okb => ?_⟩
      · intro nm hm
        rcases List.mem_cons.mp hm with rfl | hm
        · exact c1
        rcases List.mem_cons.mp hm with rfl | hm
        · exact c2
        rw [List.mem_singleton.mp hm]
        exact c1
      have bx03 := bx2.trans bx3
      have bpb : bp ≠ b := BagAt.ne bx2.1 nbp
      have hna3 := bx3.2 _ _ nab (s2 _ _ hna')
      refine ⟨_, rfl, _, rfl, _, rfl, _, _, _, sV n2, rfl, rfl, SqL.of hna3, atI_nat (j := 2) rfl, _, rfl, (by show 3 ≤ 100000; decide), fun q2 G4 nq2 s4 hq2 => ?_⟩
      have bx04 := bx03.same s4
      refine ⟨b, q2, [n0, n2, n0], rfl, bx04.1, BagAt.ne bx3.1 nq2, hq2, (by show 1 ≤ 3; decide), (by show 3 ≤ 100; decide), ?_, fun fp fvs far G5 nfp bx5 hfp hfk lfk okf => ?_⟩
      · intro nm hm
        rcases List.mem_cons.mp hm with rfl | hm
        · exact c0
        rcases List.mem_cons.mp hm with rfl | hm
        · exact c2
        rw [List.mem_singleton.mp hm]
        exact c0
      have bx05 := bx04.trans bx5
      have fpb : fp ≠ b := BagAt.ne bx04.1 nfp
      have hbp5 := bx5.2 _ _ bpb (s4 _ _ hbp)
      have hbk5 := (hbk.mono (KeepsT.of s4)).mono (KeepsT.bx bx04.1 bx5)
      have hna5 := bx5.2 _ _ nab (s4 _ _ hna3)
      refine ⟨_, _, rfl, ?_⟩
      -- what is due
      refine ⟨_, rfl, _, rfl, _, rfl, _, rfl, n0, n1, bp, fp, bvs, fvs, bk, far, rfl, SqL.of hbp5, hbk5, SqL.of hfp, hfk, by omega, by omega, okb, okf, c0, c1, fun dp dts G6 ndp s6 hdp tad => ?_⟩
      have bx06 := bx05.same s6
      have okS := stO_ok (one := n0) (o := n1) (far := far) okb
      have DS := ot_ok okS
      have hbp6 := s6 _ _ hbp5
      have hfp6 := s6 _ _ hfp
      -- handed in
      refine ⟨_, rfl, bp, bvs, rfl, .inl hbp6, fun hp1 G7 nh1 s7 hh1 => ⟨_, rfl, fp, fvs, rfl, .inl (s7 _ _ hfp6), fun hp2 G8 nh2 s8 hh2 => ?_⟩⟩
      refine ⟨_, _, rfl, ?_⟩
      have s68 := s7.trans s8
      have s58 := s6.trans s68
      have hbk8 := hbk5.mono (KeepsT.of s58)
      have hfk8 := hfk.mono (KeepsT.of s58)
      have hh18 := s8 _ _ hh1
      refine ⟨_, rfl, _, rfl, _, rfl, _, rfl, n0, n1, hp1, hp2, bvs, fvs, bk, far, rfl, SqL.of hh18, hbk8, SqL.of hh2, hfk8, by omega, by omega, fun sp sts G9 nsp s9 hsp tas => ?_⟩
      have s59 := s58.trans s9
      have s69 := s68.trans s9
      have hdp9 := s69 _ _ hdp
      have tad9 := TpsAt.mono (KeepsT.of s69) tad
      have hbk9 := hbk5.mono (KeepsT.of s59)
      have hfk9 := hfk.mono (KeepsT.of s59)
      have DB := bk_ok okb
      have DF := bk_ok okf
      refine ⟨_, rfl, _, _, _, _, true, rfl, ClsV.ty _, TyX.base (.lst hsp), list_yes, _, rfl, ?_⟩
      refine ⟨_, rfl, _, rfl, _, _, .lst (SqL.of hsp) (dp_ot tas), .lst (SqL.of hdp9) (dp_ot tad9), DS.shaped, DS.shaped, _, rfl, ?_⟩
      rw [DS.refl]
      refine ⟨_, rfl, _, rfl, _, _, .lst (SqL.of (s9 _ _ hh18)) (dp_bk hbk9), .lst (SqL.of (s59 _ _ hbp5)) (dp_bk hbk9), DB.shaped, DB.shaped, _, rfl, ?_⟩
      rw [DB.refl]
      refine ⟨_, rfl, _, rfl, _, _, .lst (SqL.of (s9 _ _ hh2)) (dp_bk hfk9), .lst (SqL.of (s59 _ _ hfp)) (dp_bk hfk9), DF.shaped, DF.shaped, _, rfl, ?_⟩
      rw [DF.refl]
      -- the list is changed
      have nsp5 : G5 sp = none := by
        cases e : G5 sp with
        | none => rfl
        | some u =>
          rw [s58 _ _ e] at nsp
          cases nsp
      have spd : dp ≠ sp := ne_of_none (s68 _ _ hdp) nsp
      refine ⟨_, rfl, .inl ⟨rfl, _, SqL.of hsp⟩, sp, sts, rfl, rfl, hsp, ?_⟩
      have sM : Same G5 (upd G9 sp (.lst [])) := Same.mut s59 nsp5
      have hdpM : (upd G9 sp (.lst [])) dp = some (.lst dts) := by
        rw [upd_ne spd]
        exact hdp9
      have tadM : TpsAt otV (upd G9 sp (.lst [])) dts (stO n0 n1 bk far) := TpsAt.mono (fun c xs hc => by
        have cD : c ≠ sp := fun z => by
          rw [z, hsp] at hc
          cases hc
        rw [upd_ne cD]
        exact hc) tad9
      generalize upd G9 sp (.lst []) = G10 at sM hdpM tadM
      have hbkM := hbk5.mono (KeepsT.of sM)
      have hfkM := hfk.mono (KeepsT.of sM)
      have hbpM := sM _ _ hbp5
      have hfpM := sM _ _ hfp
      have hnaM := sM _ _ hna5
      -- told anew
      refine ⟨_, rfl, _, rfl, _, rfl, _, rfl, n0, n1, bp, fp, bvs, fvs, bk, far, rfl, SqL.of hbpM, hbkM, SqL.of hfpM, hfkM, by omega, by omega, fun sp2 sts2 G11 nsp2 s11 hsp2 tas2 => ?_⟩
      refine ⟨_, rfl, _, _, .lst (SqL.of hsp2) (dp_ot tas2), .lst (SqL.of (s11 _ _ hdpM)) (dp_ot (TpsAt.mono (KeepsT.of s11) tadM)), DS.shaped, DS.shaped, _, rfl, ?_⟩
      rw [DS.refl]
      have sM11 := sM.trans s11
      -- of the third machine
      refine ⟨_, rfl, _, rfl, _, _, _, sV n2, rfl, rfl, SqL.of (s11 _ _ hnaM), atI_nat (j := 2) rfl, _, rfl, _, rfl, n0, n2, bp, fp, bvs, fvs, bk, far, rfl, SqL.of (s11 _ _ hbpM), hbkM.mono (KeepsT.of s11), SqL.of (s11 _ _ hfpM), hfkM.mono (KeepsT.of s11), by omega, by omega, fun sp3 sts3 G12 nsp3 s12 hsp3 tas3 => ?_⟩
      have s512 := sM11.trans s12
      refine ⟨_, rfl, _, rfl, _, _, _, sV n2, rfl, rfl, SqL.of (s512 _ _ hna5), atI_nat (j := 2) rfl, _, rfl, _, rfl, n0, n2, bp, fp, bvs, fvs, bk, far, rfl, SqL.of (s512 _ _ hbp5), hbk5.mono (KeepsT.of s512), SqL.of (s512 _ _ hfp), hfk.mono (KeepsT.of s512), by omega, by omega, okb, okf, c0, c2, fun dp2 dts2 G13 ndp2 s13 hdp2 tad2 => ?_⟩
      have DS2 := ot_ok (stO_ok (one := n0) (o := n2) (far := far) okb)
      refine ⟨_, _, .lst (SqL.of (s13 _ _ hsp3)) (dp_ot (TpsAt.mono (KeepsT.of s13) tas3)), .lst (SqL.of hdp2) (dp_ot tad2), DS2.shaped, DS2.shaped, _, rfl, ?_⟩
      rw [DS2.refl]
      have s513 := s512.trans s13
      have bx13 := bx05.same s513
      -- rows of another machine are put in
      refine ⟨_, rfl, _, rfl, _, rfl, b, bp, bvs, bk, n3, rfl, bx13.1, bpb, s513 _ _ hbp5, hbk5.mono (KeepsT.of s513), by omega, c3, fun mp mvs pl r G14 nmp bx14 hmp hmk okr nr => ?_⟩
      have bx014 := bx13.trans bx14
      have mpb : mp ≠ b := BagAt.ne bx13.1 nmp
      refine ⟨_, rfl, _, rfl, _, rfl, b, fp, fvs, far, n3, rfl, bx14.1, fpb, bx14.2 _ _ fpb (s513 _ _ hfp), (hfk.mono (KeepsT.of s513)).mono (KeepsT.bx bx13.1 bx14), by omega, c3, fun mf mfs pf rf G15 nmf bx15 hmf hmfk okrf nrf => ?_⟩
      have bx015 := bx014.trans bx15
      refine ⟨_, _, rfl, ?_⟩
      have hmp15 := bx15.2 _ _ mpb hmp
      have hmk15 := hmk.mono (KeepsT.bx bx14.1 bx15)
      have dpb : dp ≠ b := BagAt.ne bx05.1 ndp
      have kb15 := (bx14.trans bx15)
      have hdp15 := kb15.2 _ _ dpb (s13 _ _ (s12 _ _ (s11 _ _ hdpM)))
      have tad15 := TpsAt.mono ((KeepsT.of ((s11.trans s12).trans s13)).trans (KeepsT.bx bx13.1 kb15)) tadM
      have lmk : (bk.take pl ++ r :: bk.drop pl).length ≤ 1000 := by
        rw [List.length_append, List.length_cons, List.length_take, List.length_drop]
        omega
      have lmf : (far.take pf ++ rf :: far.drop pf).length ≤ 1000 := by
        rw [List.length_append, List.length_cons, List.length_take, List.length_drop]
        omega
      have okB2 : ∀ x ∈ bk.take pl ++ r :: bk.drop pl, RwOk x := fun x hx => by
        rcases List.mem_append.mp hx with z | z
        · exact okb x (List.mem_of_mem_take z)
        · rcases List.mem_cons.mp z with rfl | z
          · exact okr
          · exact okb x (List.mem_of_mem_drop z)
      have okF2 : ∀ x ∈ far.take pf ++ rf :: far.drop pf, RwOk x := fun x hx => by
        rcases List.mem_append.mp hx with z | z
        · exact okf x (List.mem_of_mem_take z)
        · rcases List.mem_cons.mp z with rfl | z
          · exact okrf
          · exact okf x (List.mem_of_mem_drop z)
      refine ⟨_, rfl, _, rfl, _, rfl, _, rfl, n0, n1, mp, mf, mvs, mfs, _, _, rfl, SqL.of hmp15, hmk15, SqL.of hmf, hmfk, lmk, lmf, fun sp4 sts4 G16 nsp4 s16 hsp4 tas4 => ?_⟩
      rw [stO_more (by rw [nr]; exact d31) (by rw [nrf]; exact d30)] at tas4
      refine ⟨_, rfl, _, _, .lst (SqL.of hsp4) (dp_ot tas4), .lst (SqL.of (s16 _ _ hdp15)) (dp_ot (TpsAt.mono (KeepsT.of s16) tad15)), DS.shaped, DS.shaped, _, rfl, ?_⟩
      rw [DS.refl]
      -- the other way round
      have hmp16 := s16 _ _ hmp15
      have hmf16 := s16 _ _ hmf
      have hmk16 := hmk15.mono (KeepsT.of s16)
      have hmfk16 := hmfk.mono (KeepsT.of s16)
      refine ⟨_, rfl, _, rfl, _, rfl, _, rfl, n1, n0, mf, mp, mfs, mvs, _, _, rfl, SqL.of hmf16, hmfk16, SqL.of hmp16, hmk16, lmf, lmk, fun sp5 sts5 G17 nsp5' s17 hsp5 tas5 => ?_⟩
      refine ⟨_, rfl, _, rfl, _, rfl, _, rfl, n1, n0, mf, mp, mfs, mvs, _, _, rfl, SqL.of (s17 _ _ hmf16), hmfk16.mono (KeepsT.of s17), SqL.of (s17 _ _ hmp16), hmk16.mono (KeepsT.of s17), lmf, lmk, okF2, okB2, c1, c0, fun dp5 dts5 G18 ndp5 s18 hdp5 tad5 => ?_⟩
      have DS5 := ot_ok (stO_ok (one := n1) (o := n0) (far := bk.take pl ++ r :: bk.drop pl) okF2)
      refine ⟨_, _, .lst (SqL.of (s18 _ _ hsp5)) (dp_ot (TpsAt.mono (KeepsT.of s18) tas5)), .lst (SqL.of hdp5) (dp_ot tad5), DS5.shaped, DS5.shaped, _, rfl, ?_⟩
      rw [DS5.refl]
      have bxF := ((bx015.same s16).same s17).same s18
      exact ⟨_, _, _, _, _, _, _, _, _, _, _, _, rfl, e2.trans (bxF.back sB hb)⟩
    · rintro σ H2 ⟨y1, y2, y3, y4, y5, y6, y7, y8, y9, y10, y11, y12, rfl, e2⟩
      exact q _
end
--SPLIT
theorem all_mk {l : PySem.W.OpenLaw} {w : World} {K : PySem.W.Frag} {h : Heap} {mg : Str → Option Value} {fa : Addr} (X : K.In h) (G : h.Ns mainGlobals mg) (hfa : mg "law" = some (.ref fa))
    {f0 f1 f2 f3 f4 f5 f6 f7 f8 f9 f10 f11 f12 f13 : Addr}
    {od0 an0 od1 an1 od2 an2 od3 an3 od4 an4 od5 an5 od6 an6 od7 an7 od8 an8 od9 an9 od10 an10 od11 an11 od12 an12 od13 an13 : Option Addr}
    {sl0 sl1 sl2 sl3 sl4 sl5 sl6 sl7 sl8 sl9 sl10 sl11 sl12 sl13 : Array (Option Value)}
    {oc0 kV0 dc0 pm0 ct0 cd0 oc1 kV1 dc1 pm1 ct1 cd1 oc2 kV2 dc2 pm2 ct2 cd2 oc3 kV3 dc3 pm3 ct3 cd3 oc4 kV4 dc4 pm4 ct4 cd4 oc5 kV5 dc5 pm5 ct5 cd5 oc6 kV6 dc6 pm6 ct6 cd6 oc7 kV7 dc7 pm7 ct7 cd7 oc8 kV8 dc8 pm8 ct8 cd8 oc9 kV9 dc9 pm9 ct9 cd9 oc10 kV10 dc10 pm10 ct10 cd10 oc11 kV11 dc11 pm11 ct11 cd11 oc12 kV12 dc12 pm12 ct12 cd12 oc13 kV13 dc13 pm13 ct13 cd13 : Value}
    (a0 : PySem.W.nsIn K mainGlobals "stories" = some (some (.ref f0))) (l0 : K.lookup f0 = some ⟨oc0, od0, .func (PySem.W.fnOf "stories" "stories" (defArgs s_stories) (defBody s_stories) (defScope s_stories) .none kV0 dc0 pm0 an0 cd0 ct0), sl0⟩) (c0 : PySem.W.codeIn K cd0 "stories" = true) (k0 : PySem.W.keepIn K (.ref f0) = true)
    (a1 : PySem.W.nsIn K mainGlobals "told_words" = some (some (.ref f1))) (l1 : K.lookup f1 = some ⟨oc1, od1, .func (PySem.W.fnOf "told_words" "told_words" (defArgs s_told_words) (defBody s_told_words) (defScope s_told_words) .none kV1 dc1 pm1 an1 cd1 ct1), sl1⟩) (c1 : PySem.W.codeIn K cd1 "told_words" = true) (k1 : PySem.W.keepIn K (.ref f1) = true)
    (a2 : PySem.W.nsIn K mainGlobals "had_numbers" = some (some (.ref f2))) (l2 : K.lookup f2 = some ⟨oc2, od2, .func (PySem.W.fnOf "had_numbers" "had_numbers" (defArgs s_had_numbers) (defBody s_had_numbers) (defScope s_had_numbers) .none kV2 dc2 pm2 an2 cd2 ct2), sl2⟩) (c2 : PySem.W.codeIn K cd2 "had_numbers" = true) (k2 : PySem.W.keepIn K (.ref f2) = true)
    (a3 : PySem.W.nsIn K mainGlobals "verdict_on" = some (some (.ref f3))) (l3 : K.lookup f3 = some ⟨oc3, od3, .func (PySem.W.fnOf "verdict_on" "verdict_on" (defArgs s_verdict_on) (defBody s_verdict_on) (defScope s_verdict_on) .none kV3 dc3 pm3 an3 cd3 ct3), sl3⟩) (c3 : PySem.W.codeIn K cd3 "verdict_on" = true) (k3 : PySem.W.keepIn K (.ref f3) = true)
    (a4 : PySem.W.nsIn K mainGlobals "_law_bag" = some (some (.ref f4))) (l4 : K.lookup f4 = some ⟨oc4, od4, .func (PySem.W.fnOf "_law_bag" "_law_bag" (defArgs s_bag) (defBody s_bag) (defScope s_bag) .none kV4 dc4 pm4 an4 cd4 ct4), sl4⟩) (c4 : PySem.W.codeIn K cd4 "_law_bag" = true) (k4 : PySem.W.keepIn K (.ref f4) = true)
    (a5 : PySem.W.nsIn K mainGlobals "_law_draw" = some (some (.ref f5))) (l5 : K.lookup f5 = some ⟨oc5, od5, .func (PySem.W.fnOf "_law_draw" "_law_draw" (defArgs s_draw) (defBody s_draw) (defScope s_draw) .none kV5 dc5 pm5 an5 cd5 ct5), sl5⟩) (c5 : PySem.W.codeIn K cd5 "_law_draw" = true) (k5 : PySem.W.keepIn K (.ref f5) = true)
    (a6 : PySem.W.nsIn K mainGlobals "_law_names_drawn" = some (some (.ref f6))) (l6 : K.lookup f6 = some ⟨oc6, od6, .func (PySem.W.fnOf "_law_names_drawn" "_law_names_drawn" (defArgs s_names_drawn) (defBody s_names_drawn) (defScope s_names_drawn) .none kV6 dc6 pm6 an6 cd6 ct6), sl6⟩) (c6 : PySem.W.codeIn K cd6 "_law_names_drawn" = true) (k6 : PySem.W.keepIn K (.ref f6) = true)
    (a7 : PySem.W.nsIn K mainGlobals "_law_number" = some (some (.ref f7))) (l7 : K.lookup f7 = some ⟨oc7, od7, .func (PySem.W.fnOf "_law_number" "_law_number" (defArgs s_number) (defBody s_number) (defScope s_number) .none kV7 dc7 pm7 an7 cd7 ct7), sl7⟩) (c7 : PySem.W.codeIn K cd7 "_law_number" = true) (k7 : PySem.W.keepIn K (.ref f7) = true)
    (a8 : PySem.W.nsIn K mainGlobals "_law_book" = some (some (.ref f8))) (l8 : K.lookup f8 = some ⟨oc8, od8, .func (PySem.W.fnOf "_law_book" "_law_book" (defArgs s_book) (defBody s_book) (defScope s_book) .none kV8 dc8 pm8 an8 cd8 ct8), sl8⟩) (c8 : PySem.W.codeIn K cd8 "_law_book" = true) (k8 : PySem.W.keepIn K (.ref f8) = true)
    (a9 : PySem.W.nsIn K mainGlobals "_law_word" = some (some (.ref f9))) (l9 : K.lookup f9 = some ⟨oc9, od9, .func (PySem.W.fnOf "_law_word" "_law_word" (defArgs s_word) (defBody s_word) (defScope s_word) .none kV9 dc9 pm9 an9 cd9 ct9), sl9⟩) (c9 : PySem.W.codeIn K cd9 "_law_word" = true) (k9 : PySem.W.keepIn K (.ref f9) = true)
    (a10 : PySem.W.nsIn K mainGlobals "_law_verdict" = some (some (.ref f10))) (l10 : K.lookup f10 = some ⟨oc10, od10, .func (PySem.W.fnOf "_law_verdict" "_law_verdict" (defArgs s_verdict) (defBody s_verdict) (defScope s_verdict) .none kV10 dc10 pm10 an10 cd10 ct10), sl10⟩) (c10 : PySem.W.codeIn K cd10 "_law_verdict" = true) (k10 : PySem.W.keepIn K (.ref f10) = true)
    (a11 : PySem.W.nsIn K mainGlobals "_law_due" = some (some (.ref f11))) (l11 : K.lookup f11 = some ⟨oc11, od11, .func (PySem.W.fnOf "_law_due" "_law_due" (defArgs s_due) (defBody s_due) (defScope s_due) .none kV11 dc11 pm11 an11 cd11 ct11), sl11⟩) (c11 : PySem.W.codeIn K cd11 "_law_due" = true) (k11 : PySem.W.keepIn K (.ref f11) = true)
    (a12 : PySem.W.nsIn K mainGlobals "_law_more" = some (some (.ref f12))) (l12 : K.lookup f12 = some ⟨oc12, od12, .func (PySem.W.fnOf "_law_more" "_law_more" (defArgs s_more) (defBody s_more) (defScope s_more) .none kV12 dc12 pm12 an12 cd12 ct12), sl12⟩) (c12 : PySem.W.codeIn K cd12 "_law_more" = true) (k12 : PySem.W.keepIn K (.ref f12) = true)
    (a13 : PySem.W.nsIn K mainGlobals "law" = some (some (.ref f13))) (l13 : K.lookup f13 = some ⟨oc13, od13, .func (PySem.W.fnOf "law" "law" (defArgs s_law) (defBody s_law) (defScope s_law) .none kV13 dc13 pm13 an13 cd13 ct13), sl13⟩) (c13 : PySem.W.codeIn K cd13 "law" = true) (k13 : PySem.W.keepIn K (.ref f13) = true)
    (z_abs : PySem.W.nsIn K mainGlobals "abs" = some none)
    (z_int : PySem.W.nsIn K mainGlobals "int" = some none)
    (z_isinstance : PySem.W.nsIn K mainGlobals "isinstance" = some none)
    (z_len : PySem.W.nsIn K mainGlobals "len" = some none)
    (z_list : PySem.W.nsIn K mainGlobals "list" = some none)
    (z_max : PySem.W.nsIn K mainGlobals "max" = some none)
    (z_min : PySem.W.nsIn K mainGlobals "min" = some none)
    (z_range : PySem.W.nsIn K mainGlobals "range" = some none)
    (z_tuple : PySem.W.nsIn K mainGlobals "tuple" = some none)
    : ∃ fd : FuncData, (∀ (s : Shared) (v : Value), BindsTo s fd ⟨[v], []⟩ [("_law_script", v)]) ∧ ∀ base : Heap, K.In base → base.Ns mainGlobals mg → FnOk l.prog w K mg base CX0 4 fa fd ["_law_script"] (spLaw K) := by
  have e := hfa.symm.trans (PySem.W.mg_of X G a13)
  cases e
  have F0 := fun_mk (st := s_stories) l0 c0 k0
  have b0 := F0.binds (ps := P_stories) fun _ _ _ _ _ _ us hl => match us, hl with | [_, _, _, _], _ => rfl
  have F1 := fun_mk (st := s_told_words) l1 c1 k1
  have b1 := F1.binds (ps := P_told_words) fun _ _ _ _ _ _ us hl => match us, hl with | [_, _], _ => rfl
  have F2 := fun_mk (st := s_had_numbers) l2 c2 k2
  have b2 := F2.binds (ps := P_had_numbers) fun _ _ _ _ _ _ us hl => match us, hl with | [_, _], _ => rfl
  have F3 := fun_mk (st := s_verdict_on) l3 c3 k3
  have b3 := F3.binds (ps := P_verdict_on) fun _ _ _ _ _ _ us hl => match us, hl with | [_, _], _ => rfl
  have F4 := fun_mk (st := s_bag) l4 c4 k4
  have b4 := F4.binds (ps := P_bag) fun _ _ _ _ _ _ us hl => match us, hl with | [_, _], _ => rfl
  have F5 := fun_mk (st := s_draw) l5 c5 k5
  have b5 := F5.binds (ps := P_draw) fun _ _ _ _ _ _ us hl => match us, hl with | [_, _], _ => rfl
  have F6 := fun_mk (st := s_names_drawn) l6 c6 k6
  have b6 := F6.binds (ps := P_names_drawn) fun _ _ _ _ _ _ us hl => match us, hl with | [_, _], _ => rfl
  have F7 := fun_mk (st := s_number) l7 c7 k7
  have b7 := F7.binds (ps := P_number) fun _ _ _ _ _ _ us hl => match us, hl with | [_], _ => rfl
  have F8 := fun_mk (st := s_book) l8 c8 k8
  have b8 := F8.binds (ps := P_book) fun _ _ _ _ _ _ us hl => match us, hl with | [_, _], _ => rfl
  have F9 := fun_mk (st := s_word) l9 c9 k9
  have b9 := F9.binds (ps := P_word) fun _ _ _ _ _ _ us hl => match us, hl with | [_, _, _], _ => rfl
  have F10 := fun_mk (st := s_verdict) l10 c10 k10
  have b10 := F10.binds (ps := P_verdict) fun _ _ _ _ _ _ us hl => match us, hl with | [_, _], _ => rfl
  have F11 := fun_mk (st := s_due) l11 c11 k11
  have b11 := F11.binds (ps := P_due) fun _ _ _ _ _ _ us hl => match us, hl with | [_, _, _, _], _ => rfl
  have F12 := fun_mk (st := s_more) l12 c12 k12
  have b12 := F12.binds (ps := P_more) fun _ _ _ _ _ _ us hl => match us, hl with | [_, _, _], _ => rfl
  have F13 := fun_mk (st := s_law) l13 c13 k13
  exact ⟨_, fun s v => .of_eq rfl, fun base _ _ => ok_law (A := ⟨f0, _, f1, _, f2, _, f3, _, f4, _, f5, _, f6, _, f7, _, f8, _, f9, _, f10, _, f11, _, f12, _, fa, _⟩) ⟨F0, b0, PySem.W.mg_of X G a0, F1, b1, PySem.W.mg_of X G a1, F2, b2, PySem.W.mg_of X G a2, F3, b3, PySem.W.mg_of X G a3, F4, b4, PySem.W.mg_of X G a4, F5, b5, PySem.W.mg_of X G a5, F6, b6, PySem.W.mg_of X G a6, F7, b7, PySem.W.mg_of X G a7, F8, b8, PySem.W.mg_of X G a8, F9, b9, PySem.W.mg_of X G a9, F10, b10, PySem.W.mg_of X G a10, F11, b11, PySem.W.mg_of X G a11, F12, b12, PySem.W.mg_of X G a12, F13, PySem.W.mg_of X G a13, PySem.W.mg_none_of X G z_abs, PySem.W.mg_none_of X G z_int, PySem.W.mg_none_of X G z_isinstance, PySem.W.mg_none_of X G z_len, PySem.W.mg_none_of X G z_list, PySem.W.mg_none_of X G z_max, PySem.W.mg_none_of X G z_min, PySem.W.mg_none_of X G z_range, PySem.W.mg_none_of X G z_tuple⟩⟩
end K60
open PySem PySem.W PyProof.Rows
set_option maxHeartbeats 0 in
theorem PySem.Challenge.cw_farpage_k60_stories_of_books_holds : PySem.Challenge.rw_farpage_k60_stories_of_books.Holds := by
  w_on; o_law; k_head; (case hw => w_witness2)
  k_fill
  refine L2.walk_of (l := PySem.Challenge.rw_farpage_k60_stories_of_books) (n := 63) (k := 4) (x := "_law_script") (CX := fun _ => L2.CX0) (sp := fun w => K60.spLaw _) rfl (by decide) rfl ⟨rfl, by decide, by decide⟩ (fun w h Y => PySem.W.kIn_of Y) ?F (fun _ _ a ns hl _ hS => ⟨a, ns, rfl, hS, hl, fun _ => rfl⟩) (fun _ _ _ _ _ h => h)
  case F =>
    intro w mg fa h KX G hmg
    refine' K60.all_mk KX G hmg ?a0 ?l0 ?c0 ?k0 ?a1 ?l1 ?c1 ?k1 ?a2 ?l2 ?c2 ?k2 ?a3 ?l3 ?c3 ?k3 ?a4 ?l4 ?c4 ?k4 ?a5 ?l5 ?c5 ?k5 ?a6 ?l6 ?c6 ?k6 ?a7 ?l7 ?c7 ?k7 ?a8 ?l8 ?c8 ?k8 ?a9 ?l9 ?c9 ?k9 ?a10 ?l10 ?c10 ?k10 ?a11 ?l11 ?c11 ?k11 ?a12 ?l12 ?c12 ?k12 ?a13 ?l13 ?c13 ?k13 ?z_abs ?z_int ?z_isinstance ?z_len ?z_list ?z_max ?z_min ?z_range ?z_tuple
    (case a0 => k_is)
    (case l0 => k_is)
    (case c0 => k_is)
    (case k0 => k_is)
    (case a1 => k_is)
    (case l1 => k_is)
    (case c1 => k_is)
    (case k1 => k_is)
    (case a2 => k_is)
    (case l2 => k_is)
    (case c2 => k_is)
    (case k2 => k_is)
    (case a3 => k_is)
    (case l3 => k_is)
    (case c3 => k_is)
    (case k3 => k_is)
    (case a4 => k_is)
    (case l4 => k_is)
    (case c4 => k_is)
    (case k4 => k_is)
    (case a5 => k_is)
    (case l5 => k_is)
    (case c5 => k_is)
    (case k5 => k_is)
    (case a6 => k_is)
    (case l6 => k_is)
    (case c6 => k_is)
    (case k6 => k_is)
    (case a7 => k_is)
    (case l7 => k_is)
    (case c7 => k_is)
    (case k7 => k_is)
    (case a8 => k_is)
    (case l8 => k_is)
    (case c8 => k_is)
    (case k8 => k_is)
    (case a9 => k_is)
    (case l9 => k_is)
    (case c9 => k_is)
    (case k9 => k_is)
    (case a10 => k_is)
    (case l10 => k_is)
    (case c10 => k_is)
    (case k10 => k_is)
    (case a11 => k_is)
    (case l11 => k_is)
    (case c11 => k_is)
    (case k11 => k_is)
    (case a12 => k_is)
    (case l12 => k_is)
    (case c12 => k_is)
    (case k12 => k_is)
    (case a13 => k_is)
    (case l13 => k_is)
    (case c13 => k_is)
    (case k13 => k_is)
    (case z_abs => k_is)
    (case z_int => k_is)
    (case z_isinstance => k_is)
    (case z_len => k_is)
    (case z_list => k_is)
    (case z_max => k_is)
    (case z_min => k_is)
    (case z_range => k_is)
    (case z_tuple => k_is)
