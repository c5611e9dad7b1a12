import PyProof.Rows.All
import Wide.All
import OpenK.AllK
import Wide.FinOn
import HandS.ForMost
import HandS.IsInst
import HandS.StrMore
import HandS.Codes
import HandS.Evl
import HandS.TupAny
import HandS.TupMul
import HandS.Walk
import PyProof.Rows.StrJoinRep
import HandS.Lambda
import HandS.EndTab
import HandS.Conv
import KE.SortKeyHeap
import HandS.HotCalls
import HandS.ExcIs
import HandS.Comp
import HandS.WordsExc
import PyProof.StrLawsTight
import PyProof.StrLawsChain
import PyProof.Rows.StrItems
import PyProof.TupleOfStr
import HandS.More
import PySem.Challenge.RW_farpage_k02_pages_written
set_option Elab.async false
set_option linter.all false
set_option maxRecDepth 100000
set_option maxHeartbeats 4000000
/-! Rules of our own over the hand layer: a sign times an int, list(text), ljust with a sign. -/
namespace Fp
open PySem L2 PyProof.Rows
/-- a text by its codes -/
def sOf (l : List Nat) : Str := ⟨l.toArray⟩
theorem sOf_list (l : List Nat) : (sOf l).cps.toList = l := by simp [sOf]
theorem sOf_len (l : List Nat) : (sOf l).length = l.length := by simp [sOf, Str.length]
theorem of_list {z : Str} {l : List Nat} (h : z.cps.toList = l) : z = sOf l := str_of_list (by rw [h, sOf_list])
theorem sOf_inj {l m : List Nat} (h : sOf l = sOf m) : l = m := by
  have := congrArg (fun z => z.cps.toList) h
  simpa [sOf] using this
theorem sOf_app (l m : List Nat) : sOf l ++ sOf m = sOf (l ++ m) := by
  apply of_list
  show ((sOf l) ++ (sOf m)).cps.toList = l ++ m
  rw [show ((sOf l) ++ (sOf m)).cps = (sOf l).cps ++ (sOf m).cps from rfl]
  simp [sOf]
section
variable {X : Cx}
theorem op_mul_str : OpR X (binaryOp .Mult) (fun x y H Q => ∃ c n, x = .str (sOf [c]) ∧ y = .int n ∧ (-100000 ≤ n ∧ n ≤ 100000) ∧ Q (.str (sOf (List.replicate n.toNat c))) H) := by
  intro pins s σ H x y v u Q I rx ry h
  obtain ⟨c, n, rfl, rfl, hz, q⟩ := h
  obtain ⟨t, rfl⟩ := rx
  obtain ⟨t', rfl⟩ := ry
  refine SB.mul (mulOk_of 1 100000 (by rw [sOf_len]; exact Nat.le_refl _) (by omega) (by omega) (by decide) (by decide)) fun t' k => ?_
  have e : Txt.mul (sOf [c]) n = sOf (List.replicate n.toNat c) := of_list (mul_one_list c n)
  rw [e]
  exact ⟨.str (sOf (List.replicate n.toNat c)), H, I.tok _, ⟨_, rfl⟩, q⟩
theorem padOk {i : Int} (h0 : 0 ≤ i) (h1 : i ≤ 100000) : PadOk i = true := padOk_of (by omega) (by omega)
theorem mt_ljustF : MtR X "str.ljust" (fun x xs H Q => ∃ (l : List Nat) (i : Int) (c : Nat), x = .str (sOf l) ∧ xs = [.int i, .str (sOf [c])] ∧ (0 ≤ i ∧ i ≤ 100000) ∧ Q (.str (sOf (l ++ List.replicate (i.toNat - l.length) c))) H) := by
  intro pins s σ H x xs v us Q I rx rs h
  obtain ⟨l, i, c, rfl, rfl, hz, q⟩ := h
  obtain ⟨t, rfl⟩ := rx
  obtain ⟨u, w', rfl, ⟨t', rfl⟩, ⟨t'', rfl⟩⟩ := vals2 rs
  refine ljust_fill (padOk hz.1 hz.2) (sOf_len _) fun t' k => ?_
  have e : Txt.ljustF (sOf l) i ((sOf [c]).cps.getD 0 0) = sOf (l ++ List.replicate (i.toNat - l.length) c) := of_list (by
    rw [ljustF_list, sOf_list, sOf_len]
    rfl)
  rw [e]
  exact ⟨.str (sOf (l ++ List.replicate (i.toNat - l.length) c)), H, I.tok _, ⟨_, rfl⟩, q⟩
theorem vals_signs {acc : List Value} {l : List Nat} (h1 : acc.length = l.length) (h2 : ∀ (j : Nat) v, acc[j]? = some v → ∃ c u, l[j]? = some c ∧ v = .str ⟨#[c]⟩ u) : Vals (l.map fun c => V.str (sOf [c])) acc := by
  induction l generalizing acc with
  | nil =>
    cases acc with
    | nil => exact .nil
    | cons a r => simp at h1
  | cons c r ih =>
    cases acc with
    | nil => simp at h1
    | cons a b =>
      obtain ⟨c', u, e, rfl⟩ := h2 0 a rfl
      have e2 : c' = c := by simpa using e.symm
      subst e2
      exact .cons ⟨u, rfl⟩ (ih (by simpa using h1) fun j v hj => h2 (j + 1) v hj)
theorem call_list_str (hc : X.calm = true) : CallR X (.type "list") (fun xs H Q => ∃ z : List Nat, xs = [.str (sOf z)] ∧ z.length ≤ 100000 ∧ ∀ l, H l = none → Q (.ref l) (upd H l (.lst (z.map fun c => V.str (sOf [c]))))) := by
  intro pins s σ H xs us Q I r h
  obtain ⟨z, rfl, hz, q⟩ := h
  obtain ⟨u, rfl, t, rfl⟩ := vals1 r
  have hl : z.length ≤ sizeLine := Nat.le_trans hz (by decide)
  refine PySem.call_list_str (I.ok.hd hc) (sOf z) t (hn := by show (sOf z).length ≤ sizeLine; rw [sOf_len]; exact hl) fun h' tk acc' c' hk hS' hacc => ?_
  have r' : Vals (z.map fun c => V.str (sOf [c])) acc'.toList := vals_signs (by have := hacc.1; simpa [sOf] using this) fun j v hj => by
    obtain ⟨c, u, e, rfl⟩ := hacc.2 j v (by simpa using hj)
    exact ⟨c, u, by simpa [sOf] using e, rfl⟩
  exact ⟨.ref s.heap.objs.size, _, I.laid (t' := tk) hk (Nat.le_refl _) (show ObjOk X.prog X.w _ h' _ (.lst _) from ⟨by rw [List.length_map]; exact hl, acc'.toList, c', r', by simpa using hS'⟩), rfl, q _ (I.hok.fresh (Nat.le_refl _))⟩
end
/-! ### heaps -/
theorem same_new {H : Hp} {p : Addr} {o : HO} (h : H p = none) : Same H (upd H p o) := fun b x e => by
  rw [upd_ne (ne_of_none e h)]
  exact e
/-- what is new may change -/
theorem Same.mut {H H' : Hp} {p : Addr} {o : HO} (e : Same H H') (h : H p = none) : Same H (upd H' p o) := fun b x hb => by
  rw [upd_ne (ne_of_none hb h)]
  exact e b x hb
/-- a bag of the laws' draws -/
def BagAt (H : Hp) (b : Addr) : Prop := ∃ g s : Int, H b = some (.lst [.int g, .int s]) ∧ 0 ≤ g ∧ 0 ≤ s ∧ s < 1000000000000
/-- the bag has turned, what else stood stands -/
def Bx (b : Addr) (H H' : Hp) : Prop := BagAt H' b ∧ ∀ a o, a ≠ b → H a = some o → H' a = some o
theorem Bx.refl {b : Addr} {H : Hp} (h : BagAt H b) : Bx b H H := ⟨h, fun _ _ _ e => e⟩
theorem Bx.trans {b : Addr} {H H1 H2 : Hp} (x : Bx b H H1) (y : Bx b H1 H2) : Bx b H H2 := ⟨y.1, fun a o n e => y.2 a o n (x.2 a o n e)⟩
theorem Bx.drawn {b : Addr} {H : Hp} {g s : Int} (g0 : 0 ≤ g) (s0 : 0 ≤ s) (s1 : s < 1000000000000) : Bx b H (upd H b (.lst [.int g, .int s])) := ⟨⟨g, s, upd_same, g0, s0, s1⟩, fun a o n e => by
  rw [upd_ne n]
  exact e⟩
theorem Bx.same {b : Addr} {H H1 H2 : Hp} (x : Bx b H H1) (y : Same H1 H2) : Bx b H H2 := by
  obtain ⟨⟨g, s, h, r⟩, k⟩ := x
  exact ⟨⟨g, s, y _ _ h, r⟩, fun a o n e => y _ _ (k a o n e)⟩
/-- from before the bag was made -/
theorem Bx.back {b : Addr} {H0 H H' : Hp} (x : Bx b H H') (y : Same H0 H) (n : H0 b = none) : Same H0 H' := fun a o e => x.2 a o (ne_of_none e n) (y a o e)
theorem Bx.mut {b p : Addr} {H H' : Hp} {o : HO} (x : Bx b H H') (hp : H p = none) (n : p ≠ b) : Bx b H (upd H' p o) := by
  obtain ⟨⟨g, s, h, r⟩, k⟩ := x
  refine ⟨⟨g, s, by rw [upd_ne n.symm]; exact h, r⟩, fun a u m e => ?_⟩
  rw [upd_ne (ne_of_none e hp)]
  exact k a u m e
theorem Bx.free {b p : Addr} {H H' : Hp} (x : Bx b H H') (h : H' p = none) : H p = none := by
  have n : p ≠ b := by
    obtain ⟨g, s, e, _⟩ := x.1
    exact (ne_of_none e h).symm
  cases q : H p with
  | none => rfl
  | some o =>
    rw [x.2 p o n q] at h
    cases h
theorem BagAt.new {H : Hp} {p : Addr} {g s : Int} (g0 : 0 ≤ g) (s0 : 0 ≤ s) (s1 : s < 1000000000000) : BagAt (upd H p (.lst [.int g, .int s])) p := ⟨g, s, upd_same, g0, s0, s1⟩
theorem BagAt.ne {H : Hp} {b p : Addr} (h : BagAt H b) (n : H p = none) : p ≠ b := by
  obtain ⟨g, s, e, _⟩ := h
  exact (ne_of_none e n).symm
/-- a list's own address is no bag's where its items are texts -/
def cells (l : List Nat) : List V := l.map fun c => V.str (sOf [c])
theorem cells_len (l : List Nat) : (cells l).length = l.length := List.length_map ..
theorem cells_set (l : List Nat) (j c : Nat) : (cells l).set j (.str (sOf [c])) = cells (l.set j c) := by
  unfold cells
  rw [List.map_set]
theorem cells_app (l : List Nat) (c : Nat) : cells l ++ [.str (sOf [c])] = cells (l ++ [c]) := by
  unfold cells
  rw [List.map_append]
  rfl
/-- the cells of rows -/
def Cell (c : Nat) : Prop := c = 46 ∨ c = 35
def Row (l : List Nat) : Prop := ∀ c ∈ l, Cell c
theorem Row.set {l : List Nat} {j c : Nat} (h : Row l) (hc : Cell c) : Row (l.set j c) := fun x hx => by
  rcases List.mem_or_eq_of_mem_set hx with e | e
  · exact h x e
  · rw [e]
    exact hc
theorem Row.app {l : List Nat} {c : Nat} (h : Row l) (hc : Cell c) : Row (l ++ [c]) := fun x hx => by
  rcases List.mem_append.mp hx with e | e
  · exact h x e
  · rw [List.mem_singleton.mp e]
    exact hc
theorem Row.rep {n c : Nat} (hc : Cell c) : Row (List.replicate n c) := fun x hx => by
  rw [(List.mem_replicate.mp hx).2]
  exact hc
theorem Row.nil : Row [] := fun _ h => nomatch h
def cellN (i : Int) : Nat := if i = 0 then 46 else 35
theorem cellN_cell (i : Int) : Cell (cellN i) := by
  unfold cellN
  split
  · exact .inl rfl
  · exact .inr rfl
theorem cell_at {i : Int} (h0 : 0 ≤ i) (h1 : i < 2) : atI (Str.ofString ".#").cps.toList i = some (cellN i) := by
  have : i = 0 ∨ i = 1 := by omega
  rcases this with rfl | rfl <;> rfl
theorem two_len : (Str.ofString ".#").length ≤ sizeLine := by decide
theorem sz {n : Nat} (h : n ≤ 100000) : n ≤ sizeLine := Nat.le_trans h (by decide)
theorem szl {n : Nat} (h : n < 100000) : n < sizeLine := Nat.lt_of_lt_of_le h (by decide)
theorem sIx_nat' (n d a : Nat) : HT.sIx n d (some (a : Int)) = min a n := HT.sIx_nat n d a
theorem cutS_nat (l : List Nat) (a b : Nat) (ha : a ≤ l.length) (hb : b ≤ l.length) : cutS (sOf l) (some (a : Int)) (some (b : Int)) = sOf ((l.drop a).take (b - a)) := by
  unfold cutS
  rw [HT.sIx_nat, HT.sIx_nat, sOf_len, sOf_list, Nat.min_eq_left ha, Nat.min_eq_left hb]
  rfl
theorem take_more {α : Type} (l : List α) (i : Nat) (x : α) (h : l[i]? = some x) : l.take (i + 1) = l.take i ++ [x] := by
  rw [List.take_add_one, h]
  rfl
theorem range_more {α : Type} (f : Nat → α) (i : Nat) : (List.range (i + 1)).map f = (List.range i).map f ++ [f i] := by
  rw [List.range_succ, List.map_append]
  rfl
theorem join_cells : ∀ l : List Nat, Txt.join (Str.ofString "") (l.map fun c => sOf [c]) = sOf l := by
  intro l
  show Builtin.Str.glued (Str.ofString "") (l.map fun c => sOf [c]) = sOf l
  rw [StrLaws.glued_eq_join]
  induction l with
  | nil => rfl
  | cons c r ih =>
    cases r with
    | nil => rfl
    | cons d r =>
      show sOf [c] ++ Str.ofString "" ++ Str.join (Str.ofString "") (List.map (fun c => sOf [c]) (d :: r)) = sOf (c :: d :: r)
      rw [ih, show (Str.ofString "") = sOf [] from rfl, sOf_app, sOf_app]
      rfl
theorem cells_strs (l : List Nat) : cells l = (l.map fun c => sOf [c]).map V.str := by
  rw [List.map_map]
  rfl
theorem ones_sum (l : List Nat) : ((l.map fun c => sOf [c]).map (·.length)).sum = l.length := by
  induction l with
  | nil => rfl
  | cons c r ih =>
    rw [List.map_cons, List.map_cons, List.sum_cons, ih, sOf_len, List.length_cons]
    show 1 + r.length = r.length + 1
    omega
theorem join_size {l : List Nat} (h : l.length ≤ 100000) : ((l.map fun c => sOf [c]).map (·.length)).sum + (l.map fun c => sOf [c]).length * (Str.ofString "").length ≤ 16777216 := by
  rw [ones_sum, show (Str.ofString "").length = 0 from rfl]
  omega
theorem rep_one (n : Nat) (c : Nat) : (List.replicate n [V.str (sOf [c])]).flatten = cells (List.replicate n c) := by
  induction n with
  | zero => rfl
  | succ k ih =>
    rw [List.replicate_succ, List.flatten_cons, ih, List.replicate_succ]
    rfl

/-! ### lists and tuples of texts -/
def sV (l : List Nat) : V := .str (sOf l)
def sD (l : List Nat) : PyData := .str (sOf l)
theorem dp_rows {K : PySem.W.Frag} {H : Hp} : ∀ rows : List (List Nat), DpAll K H (rows.map sV) (rows.map sD)
  | [] => .nil
  | r :: rs => .cons (.str _) (dp_rows rs)
def Codes (l : List Nat) : Prop := ∀ c ∈ l, c < 128
theorem strOk_of {l : List Nat} (h : Codes l) : PyData.strOk (sOf l) = true := by
  unfold PyData.strOk sOf
  rw [Array.all_eq_true']
  intro c hc
  have h2 := h c (by simpa using hc)
  exact decide_eq_true (by omega)
theorem lay_rows : ∀ {rows : List (List Nat)}, (∀ r ∈ rows, Codes r) → PyData.canLayAll0 (rows.map sD) = true
  | [], _ => by simp [PyData.canLayAll0]
  | r :: rs, h => by
    have h1 : PyData.canLay0 (sD r) = true := by
      show PyData.canLay0 (.str (sOf r)) = true
      simp only [PyData.canLay0]
      exact strOk_of (h r (List.mem_cons_self ..))
    have h2 := lay_rows (rows := rs) fun x hx => h x (List.mem_cons_of_mem _ hx)
    simp only [List.map_cons, PyData.canLayAll0, h1, h2, Bool.and_true]
theorem depth_rows : ∀ rows : List (List Nat), PyData.depthAll (rows.map sD) = 0
  | [] => by simp [PyData.depthAll]
  | r :: rs => by
    have h := depth_rows rs
    simp only [List.map_cons, PyData.depthAll, h, sD, PyData.depth]
    rfl
theorem shaped_tup {rows : List (List Nat)} (h : ∀ r ∈ rows, Codes r) : SeqAt.shaped (.tuple (rows.map sD)) = true := by
  show (PyData.canLay0 (.tuple (rows.map sD)) && decide (PyData.depth (.tuple (rows.map sD)) ≤ 64)) = true
  rw [Bool.and_eq_true]
  refine ⟨by simp only [PyData.canLay0]; exact lay_rows h, decide_eq_true ?_⟩
  simp only [PyData.depth, depth_rows]
  omega
theorem shaped_lst {rows : List (List Nat)} (h : ∀ r ∈ rows, Codes r) : SeqAt.shaped (.list (rows.map sD)) = true := by
  show (PyData.canLay0 (.list (rows.map sD)) && decide (PyData.depth (.list (rows.map sD)) ≤ 64)) = true
  rw [Bool.and_eq_true]
  refine ⟨by simp only [PyData.canLay0]; exact lay_rows h, decide_eq_true ?_⟩
  simp only [PyData.depth, depth_rows]
  omega
theorem eqv_tup {rows : List (List Nat)} (h : ∀ r ∈ rows, Codes r) : PyData.eqv (.tuple (rows.map sD)) (.tuple (rows.map sD)) = true := SeqAt.eqv_refl _ (by simp only [PyData.canLay0]; exact lay_rows h)
theorem eqv_lst {rows : List (List Nat)} (h : ∀ r ∈ rows, Codes r) : PyData.eqv (.list (rows.map sD)) (.list (rows.map sD)) = true := SeqAt.eqv_refl _ (by simp only [PyData.canLay0]; exact lay_rows h)
theorem Row.codes {l : List Nat} (h : Row l) : Codes l := fun c hc => by
  rcases h c hc with e | e <;> rw [e] <;> decide
theorem same_t {K : PySem.W.Frag} {H H' : Hp} {a : Addr} {xs : List V} (e : Same H H') (h : SqT K H a xs) : SqT K H' a xs := Evl.ex_t e h
theorem cut1 (xs : List V) : cutV xs (some 1) none = xs.drop 1 := by
  unfold cutV
  rw [show HT.sIx xs.length 0 (some 1) = min 1 xs.length from HT.sIx_nat xs.length 0 1, HT.sIx_none]
  cases xs with
  | nil => rfl
  | cons x r =>
    rw [show min 1 (x :: r).length = 1 by
      rw [List.length_cons]
      omega]
    show (List.take ((x :: r).length - 1) r) = r
    rw [List.length_cons, Nat.add_sub_cancel]
    exact List.take_length

/-! ### tuples of any kind, texts times an int -/
section
variable {X : Cx}
theorem cutV_whole {xs : List V} {lo hi : Option Int} (h : HT.sIx xs.length 0 lo = 0 ∧ HT.sIx xs.length xs.length hi = xs.length) : cutV xs lo hi = xs := by
  unfold cutV
  rw [h.1, h.2]
  show (xs.drop 0).take (xs.length - 0) = xs
  rw [List.drop_zero, Nat.sub_zero, List.take_length]
theorem sl_tupW : SlR X (fun x lo hi H Q => ∃ a xs, x = .ref a ∧ H a = some (.tup xs) ∧ ∀ q H', Same H H' → H' q = some (.tup (cutV xs lo hi)) → Q (.ref q) H') := by
  intro pins s σ H x v vl vu lo hi sl Q I rx hs pl pu h
  obtain ⟨a, xs, rfl, hx, q⟩ := h
  refine sl_tupA pins s σ H _ v vl vu lo hi sl Q I rx hs pl pu ⟨a, xs, rfl, .inl (.inl hx), fun e => ?_, fun e p hp => ?_⟩
  · exact q a H (Same.refl H) (by rw [cutV_whole e]; exact hx)
  · exact q p _ (same_new hp) upd_same
theorem op_catW : OpR X (binaryOp .Add) (fun x y H Q => ∃ a b xs ys, x = .ref a ∧ y = .ref b ∧ H a = some (.tup xs) ∧ H b = some (.tup ys) ∧ xs.length + ys.length ≤ 100000 ∧ ∀ q H', Same H H' → H' q = some (.tup (xs ++ ys)) → Q (.ref q) H') := by
  intro pins s σ H x y v u Q I rx ry h
  obtain ⟨a, b, xs, ys, rfl, rfl, ha, hb, hz, q⟩ := h
  refine op_catA pins s σ H _ _ v u Q I rx ry ⟨a, b, xs, ys, rfl, rfl, .inl (.inl ha), .inl (.inl hb), sz hz, fun e => ?_, fun _ e => ?_, fun _ _ p hp => ?_⟩
  · subst e
    exact q b H (Same.refl H) hb
  · subst e
    exact q a H (Same.refl H) (by rw [List.append_nil]; exact ha)
  · exact q p _ (same_new hp) upd_same
theorem op_mul_txt : OpR X (binaryOp .Mult) (fun x y H Q => ∃ (z : Str) (n : Int), x = .str z ∧ y = .int n ∧ (0 ≤ n ∧ n ≤ 1000 ∧ z.length ≤ 1000) ∧ ∀ m : Str, (m.length : Int) = (z.length : Int) * n → Q (.str m) H) := by
  intro pins s σ H x y v u Q I rx ry h
  obtain ⟨z, n, rfl, rfl, hz, q⟩ := h
  obtain ⟨t, rfl⟩ := rx
  obtain ⟨t', rfl⟩ := ry
  refine SB.mul (mulOk_of 1000 1000 hz.2.2 (by omega) (by omega) (by decide) (by decide)) fun t' k => ?_
  have e := len_mul z n
  rw [if_neg (by simp; omega)] at e
  exact ⟨.str (Txt.mul z n), H, I.tok _, ⟨_, rfl⟩, q _ e⟩
end
theorem cutV_mem {xs : List V} {lo hi : Option Int} {v : V} (h : v ∈ cutV xs lo hi) : v ∈ xs := by
  unfold cutV at h
  exact List.mem_of_mem_drop (List.mem_of_mem_take h)
theorem cutV_len (xs : List V) (lo hi : Option Int) : (cutV xs lo hi).length ≤ xs.length := by
  unfold cutV
  rw [List.length_take, List.length_drop]
  omega
/-! ### things of the laws -/
def Flat (v : V) : Prop := v = .non ∨ (∃ x, v = .bl x) ∨ (∃ i, v = .int i) ∨ ∃ z : Str, v = .str z ∧ z.length ≤ 100000
def It (b : Addr) (H : Hp) (v : V) : Prop := Flat v ∨ (∃ a xs, v = .ref a ∧ a ≠ b ∧ H a = some (.lst xs)) ∨ ∃ a xs, v = .ref a ∧ H a = some (.tup xs)
def Tg (b : Addr) (H : Hp) (v : V) : Prop := Flat v ∨ (∃ a xs, v = .ref a ∧ a ≠ b ∧ H a = some (.lst xs)) ∨ ∃ a xs, v = .ref a ∧ H a = some (.tup xs) ∧ xs.length ≤ 1000 ∧ ∀ u ∈ xs, It b H u
theorem BagAt.tup {H : Hp} {b a : Addr} {xs : List V} (h : BagAt H b) (e : H a = some (.tup xs)) : a ≠ b := fun z => by
  obtain ⟨g, s, e2, _⟩ := h
  rw [z, e2] at e
  cases e
theorem It.bx {b : Addr} {H H' : Hp} {v : V} (h : It b H v) (hb : BagAt H b) (x : Bx b H H') : It b H' v := by
  rcases h with h | ⟨a, xs, rfl, n, e⟩ | ⟨a, xs, rfl, e⟩
  · exact .inl h
  · exact .inr (.inl ⟨a, xs, rfl, n, x.2 _ _ n e⟩)
  · exact .inr (.inr ⟨a, xs, rfl, x.2 _ _ (hb.tup e) e⟩)
theorem Tg.bx {b : Addr} {H H' : Hp} {v : V} (h : Tg b H v) (hb : BagAt H b) (x : Bx b H H') : Tg b H' v := by
  rcases h with h | ⟨a, xs, rfl, n, e⟩ | ⟨a, xs, rfl, e, l, k⟩
  · exact .inl h
  · exact .inr (.inl ⟨a, xs, rfl, n, x.2 _ _ n e⟩)
  · exact .inr (.inr ⟨a, xs, rfl, x.2 _ _ (hb.tup e) e, l, fun u hu => (k u hu).bx hb x⟩)
theorem Tg.it {b : Addr} {H : Hp} {v : V} (h : Tg b H v) : It b H v := by
  rcases h with h | h | ⟨a, xs, rfl, e, l, k⟩
  · exact .inl h
  · exact .inr (.inl h)
  · exact .inr (.inr ⟨a, xs, rfl, e⟩)
theorem Tg.str {b : Addr} {H : Hp} {z : Str} (h : z.length ≤ 100000) : Tg b H (.str z) := .inl (.inr (.inr (.inr ⟨z, rfl, h⟩)))
theorem It.str {b : Addr} {H : Hp} {z : Str} (h : z.length ≤ 100000) : It b H (.str z) := .inl (.inr (.inr (.inr ⟨z, rfl, h⟩)))
theorem str_sOf (z : Str) : z = sOf z.cps.toList := of_list rfl

/-! ### rules whose new objects stand in an opaque heap -/
section
variable {X : Cx} {es : List Expr} {t : TA} {pos : Pos}
theorem pe_weaken {e : Expr} {te tf : TE} (h : PE X e te) (k : ∀ σ H Q, tf σ H Q → te σ H Q) : PE X e tf := ⟨fun pins s σ H Q I q => h.run pins s σ H Q I (k σ H Q q)⟩
def tLstW (t : TA) : TE := fun σ H Q => t σ H fun xs H1 => xs.length ≤ 100000 ∧ ∀ p H2, H1 p = none → Same H1 H2 → H2 p = some (.lst xs) → Q (.ref p) H2
def tTupW (t : TA) : TE := fun σ H Q => t σ H fun xs H1 => xs.length ≤ 100000 ∧ ∀ p H2, H1 p = none → Same H1 H2 → H2 p = some (.tup xs) → Q (.ref p) H2
end
def rNewW (H : Hp) (o : HO) (Q : VK) : Prop := ∀ p H2, H p = none → Same H H2 → H2 p = some o → Q (.ref p) H2
theorem rNewW.go {H : Hp} {o : HO} {Q : VK} (q : rNewW H o Q) : ∀ p, H p = none → Q (.ref p) (upd H p o) := fun p hp => q p _ hp (same_new hp) upd_same
section
variable {X : Cx}
theorem op_catLW : OpR X (binaryOp .Add) (fun x y H Q => ∃ a b xs ys, x = .ref a ∧ y = .ref b ∧ H a = some (.lst xs) ∧ H b = some (.lst ys) ∧ xs.length + ys.length ≤ 100000 ∧ rNewW H (.lst (xs ++ ys)) Q) := by
  intro pins s σ H x y v u Q I rx ry h
  obtain ⟨a, b, xs, ys, rfl, rfl, ha, hb, hz, q⟩ := h
  exact op_cat pins s σ H _ _ v u Q I rx ry ⟨a, b, xs, ys, rfl, rfl, ha, hb, sz hz, q.go⟩
theorem op_repTW : OpR X (binaryOp .Mult) (fun x y H Q => ∃ l k xs, x = .ref l ∧ y = .int k ∧ H l = some (.tup xs) ∧ xs ≠ [] ∧ 2 ≤ k ∧ k ≤ 1000 ∧ xs.length ≤ 1000 ∧ rNewW H (.tup (List.replicate k.toNat xs).flatten) Q) := by
  intro pins s σ H x y v u Q I rx ry h
  obtain ⟨l, k, xs, rfl, rfl, hl, h1, h2, h3, h4, q⟩ := h
  exact op_repT pins s σ H _ _ v u Q I rx ry ⟨l, k, xs, rfl, rfl, .inl (.inl hl), h1, h2, h3, h4, q.go⟩
theorem call_list_ofW : CallR X (.type "list") (fun xs H Q => ∃ p ys, xs = [.ref p] ∧ (H p = some (.lst ys) ∨ H p = some (.tup ys)) ∧ rNewW H (.lst ys) Q) := by
  intro pins s σ H xs us Q I r h
  obtain ⟨p, ys, rfl, hp, q⟩ := h
  exact call_list_of pins s σ H _ us Q I r ⟨p, ys, rfl, hp.elim (fun h => .inl (SqL.of h)) (fun h => .inr (.inl (.inl h))), q.go⟩
theorem call_list_strW (hc : X.calm = true) : CallR X (.type "list") (fun xs H Q => ∃ z : Str, xs = [.str z] ∧ z.length ≤ 100000 ∧ rNewW H (.lst (cells z.cps.toList)) Q) := by
  intro pins s σ H xs us Q I r h
  obtain ⟨z, rfl, hz, q⟩ := h
  refine call_list_str hc pins s σ H _ us Q I r ⟨z.cps.toList, by rw [← str_sOf], ?_, q.go⟩
  rw [Array.length_toList]
  exact hz
end
section
variable {X : Cx} {es : List Expr} {t : TA} {pos : Pos}
theorem pe_tupW {x1} (h : PA X es t) : PE X (.Tuple es x1 pos) (tTupW t) := by
  refine ⟨fun pins s σ H Q I hq => ?_⟩
  refine wpAny_Tuple_spliced (thn (h.run pos pins s σ H _ I hq) fun us s1 ⟨xs, H1, I1, r, z, q⟩ => ⟨by rw [← r.length]; exact sz z, ?_⟩)
  have hf : H1 s1.heap.objs.size = none := I1.hok.fresh (Nat.le_refl _)
  refine ⟨.ref s1.heap.objs.size, upd H1 s1.heap.objs.size (.tup xs), I1.laid (t' := s1.toks) (fun b u e => Heap.get?_push_of_some _ e) (Nat.le_refl _) ?_, rfl, q _ _ hf (same_new hf) upd_same⟩
  exact ⟨sz z, us, r, ⟨_, Heap.get?_push_size _ rfl, rfl, _, rfl⟩⟩
theorem pe_lstW (h : PA X es t) : PE X (.List es pos) (tLstW t) := by
  refine ⟨fun pins s σ H Q I hq => ?_⟩
  refine wpAny_List_spliced (thn (h.run pos pins s σ H _ I hq) fun us s1 ⟨xs, H1, I1, r, z, q⟩ => ⟨by rw [← r.length]; exact sz z, ?_⟩)
  have hf : H1 s1.heap.objs.size = none := I1.hok.fresh (Nat.le_refl _)
  refine ⟨.ref s1.heap.objs.size, upd H1 s1.heap.objs.size (.lst xs), I1.laid (t' := s1.toks) (fun b u e => Heap.get?_push_of_some _ e) (Nat.le_refl _) ?_, rfl, q _ _ hf (same_new hf) upd_same⟩
  exact ⟨sz z, us, 0, r, Heap.get?_push_size _ rfl⟩
end
end Fp

set_option Elab.async false
set_option linter.all false
set_option maxRecDepth 100000
set_option maxHeartbeats 4000000
/-! sorted(range(n), key=lambda i: xs[i]) over the hand layer. -/
namespace Fp
open PySem PySem.W PySem.Spec PyProof.Rows
section
variable {prog : Program} {w : World} {A : Around} {E : Value → Shared → Prop} {s : Shared}
/-- the key's call: (lambda i: xs[i])(i) -/
theorem key_turn {f c' a cL : Addr} {qual : Str} {params : Arguments} {scope : Scope} {clos : List (Str × Addr)} {pm ctv : Value} {xL xP : Str} {p1 p2 p3 : Pos} {h : Heap} {tk : Nat} {its : Array Value} {i : Int} {t : Tok} {x : Int} {tx : Tok}
    (hroom : A.depth < recursionLimit) (hf : h.get? f = some (kla_obj "<lambda>" qual params (.Subscript (.Name xL p1) (.Name xP p2) p3) scope clos pm c' ctv))
    (hkind : scope.kind = .function) (hco : scope.isCoroutine = false) (hgen : scope.isGenerator = false) (hcell : ∀ y ∈ scope.names, y.2 ≠ .cell) (hP : scope.names.lookup xP = some .local) (hL : scope.names.lookup xL = some .free)
    (hcl : clos.lookup xL = some cL) (hic : h.IsCell cL (some (.ref a))) (hcr : ∃ (oc : Obj) (vs : Array Value) (t : Tok), h.get? c' = some oc ∧ oc.data = .fields vs ∧ vs[1]? = some (.str qual t))
    (hbind : ∀ v, bindArgs (kla_fn "<lambda>" qual params (.Subscript (.Name xL p1) (.Name xP p2) p3) scope clos pm (.ref c') ctv) ⟨[v], []⟩ = pure [(xP, v)])
    (hlim : h.NoLimit) (hl : h.IsList a its) (h0 : 0 ≤ i) (hi : i < 2 ^ 63) (hx : its[i.toNat]? = some (.int x tx))
    (hd1 : (xL == ("__debug__" : Str)) = false) (hd2 : (xP == ("__debug__" : Str)) = false) (hd3 : (xL == ("__classdict__" : Str)) = false) :
    wpAny (model prog w) A (call (.ref f) [.int i t]) (KeyPure (.int x) { s with heap := h, toks := tk }) E { s with heap := h, toks := tk } := by
  obtain ⟨oc, vs, tq, hoc, hdc, hvc⟩ := hcr
  refine wpAny_call (kla_callFunE hroom hf rfl hco hgen rfl ⟨c', oc, vs, tq, rfl, hoc, hdc, hvc⟩ ?_)
  rw [hbind]
  refine wpAny_pure (wpAny_newFunctionEnv hcell (fun y hy => ?_) (fun h₁ hns hsb => ⟨hlim.fresh _ hsb, ?_⟩) hkind)
  · rw [List.mem_singleton.mp hy]
    exact hP
  have kp : ∀ b o, h.get? b = some o → h₁.get? b = some o := fun b o e => hsb.extBut b o (Nat.ne_of_lt (Heap.lt_size e)) (Heap.get?_push_of_some _ e)
  show codeAny _ _ (.expr (.Subscript (.Name xL p1) (.Name xP p2) p3) (envX qual scope h.objs.size f (.ref c') clos)) _ _
  refine kla_codeExpr ?_
  have hic1 : h₁.IsCell cL (some (.ref a)) := by
    obtain ⟨o, ho, hd⟩ := hic
    exact ⟨o, kp _ _ ho, hd⟩
  have hl1 : h₁.IsList a its := by
    obtain ⟨o, ho, r⟩ := hl
    exact ⟨o, kp _ _ ho, r⟩
  refine Subscript_ (wpAny_Name (wpAny_loadName_free hkind hL hcl hic1 (wpAny_Name (wpAny_loadName_local hkind hP hns (show ([(xP, Value.int i t)] : List (Str × Value)).reverse.lookup xP = some (Value.int i t) by simp [List.lookup]) ?_) hd2) hd3) hd1)
  refine item_listR hl1 h0 hi hx ?_ rfl
  exact ⟨h₁, _, rfl, kp, .int _ _⟩
theorem each_range {acc : List Value} {n : Nat} (h1 : acc.length = n) (h2 : ∀ (j : Nat) v, acc[j]? = some v → ∃ t, v = .int (0 + (j : Int) * 1) t) : EachIs (fun v (i : Nat) => ∃ t, v = .int (i : Int) t) acc (List.range n) := by
  refine EachIs.of_zip (by rw [h1, List.length_range]) fun p hp => ?_
  obtain ⟨j, hj⟩ := List.mem_iff_getElem?.mp hp
  rw [List.getElem?_zip_eq_some] at hj
  obtain ⟨t, e⟩ := h2 j p.1 hj.1
  have e2 : p.2 = j := by
    have hj2 := hj.2
    have hl : j < n := by
      have := (List.getElem?_eq_some_iff.mp hj2).1
      rw [List.length_range] at this
      exact this
    rw [List.getElem?_range hl] at hj2
    exact (Option.some.inj hj2).symm
  refine ⟨t, ?_⟩
  rw [e, e2]
  congr 1
  omega
theorem sorted_range_key {r : Addr} {b : Int} {t u v : Tok} {f : Addr} {n : Nat} {Q : Value → Shared → Prop} (k : Nat → Int) (hh : A.handled = none) (hr : IsRange s.heap r 0 b 1 t u v) (hn : b = n) (hlen : n ≤ 100000) (hu : A.units + 2 < cLine)
    (turn : ∀ (i : Nat) (tt : Tok), i < n → ∀ (h : Heap) (tk : Nat), (∀ b o, s.heap.get? b = some o → h.get? b = some o) →
      wpAny (model prog w) A.in1.in1 (call (.ref f) [.int (i : Int) tt]) (KeyPure (.int (k i)) { s with heap := h, toks := tk }) (fun _ _ => False) { s with heap := h, toks := tk })
    (fin : ∀ (out : List Value) (c : Nat) (g h' : Heap) (tk : Nat) (p : Addr), (∀ b o, s.heap.get? b = some o → g.get? b = some o) → (∀ b o, g.get? b = some o → h'.get? b = some o) → g.objs.size ≤ p → h'.get? p = some (seqObj "list" out.toArray c) → out.length = n →
      EachIs (fun v (i : Nat) => ∃ t, v = .int (i : Int) t) out ((List.range n).mergeSort (dataLe false fun i => .int (k i))) → Q (.ref p) { s with heap := h', toks := tk }) :
    wpAny (model prog w) A (call (.builtin "sorted") [.ref r] [(Str.ofString "key", .ref f)]) Q E s := by
  refine call_function_entry_kw kind_sorted plain_sorted entry_sorted (ksk_s1 _ _) ?_
  unfold Builtin.«sorted»
  refine wpAny_bind (m := checkCount "sorted" 1 1 _) (wpAny_pure ?_)
  refine wpAny_bind (L2.collect_range (n := n) (A := A.in1) hh hr (small_one (by omega) (by omega) (by omega) (by omega)) (by rw [rangeSize_one]; split <;> omega) (by omega) fun h1 tk1 acc hk hacc => ?_)
  have hal : acc.toList.length = n := by rw [Array.length_toList]; exact hacc.1
  have eR := each_range hal fun j v hj => hacc.2 j v (by simpa using hj)
  have hz : acc.toList.length ≤ sizeLine := by rw [hal]; exact Nat.le_trans hlen (by decide)
  refine wpAny_bind (wpAny_newList ?_ hz)
  have hL : (h1.push (seqObj "list" acc.toList.toArray 0)).get? h1.objs.size = some (seqObj "list" acc.toList.toArray 0) := Heap.get?_push_size _ rfl
  refine wpAny_bind (wpAny_holding (wpAny_call_entry_kw slot_list_sort ⟨_, hL, rfl⟩ entry_list_sort ?body (ksk_l1 _ _)))
  rw [ksk_t1]
  have up : ∀ {g : Heap}, KeepsBut h1.objs.size (h1.push (seqObj "list" acc.toList.toArray 0)) g → ∀ b o, s.heap.get? b = some o → g.get? b = some o := fun {g} kp b o q =>
    kp b o (Nat.ne_of_lt (Heap.lt_size (hk b o q))) (Heap.get?_push_of_some _ (hk b o q))
  refine keyH_tree (kz := (List.range n).map fun i => PyData.int (k i)) (s := { s with heap := h1.push (seqObj "list" acc.toList.toArray 0), toks := tk1 }) hL (by rw [List.length_map, List.length_range]; exact hal.symm) hz ?al ?so ?un
    (keyH_turns (s := { s with heap := h1.push (seqObj "list" acc.toList.toArray 0), toks := tk1 }) eR fun v x hR hx h tk kp => ?_) fun h' tk out c kp hD ko => ⟨_, rfl, ?_⟩
  case al =>
    intro d hd d' hd'
    obtain ⟨i, _, rfl⟩ := List.mem_map.mp hd
    obtain ⟨j, _, rfl⟩ := List.mem_map.mp hd'
    rfl
  case so =>
    refine .inr fun d hd => ?_
    obtain ⟨i, _, rfl⟩ := List.mem_map.mp hd
    exact ⟨(fun e => nomatch e), (fun xs e => nomatch e)⟩
  case un =>
    intro d hd
    obtain ⟨i, _, rfl⟩ := List.mem_map.mp hd
    show A.units + 1 + 1 + 0 < cLine
    omega
  · obtain ⟨tt, rfl⟩ := hR
    exact turn x tt (List.mem_range.mp hx) h tk (up kp)
  · refine wpAny_pure ⟨_, rfl, ?_⟩
    refine fin out c h1 h' tk h1.objs.size hk (fun b o q => kp b o (Nat.ne_of_lt (Heap.lt_size q)) (Heap.get?_push_of_some _ q)) (Nat.le_refl _) hD ?_ (keyedOut_each (fun i => PyData.int (k i)) ko eR)
    · exact (ko.length (by rw [List.length_map, List.length_range]; exact hal.symm)).trans hal
end
/-! ### the order -/
def leK (k : Nat → Int) (i j : Nat) : Bool := decide (k i ≤ k j)
def orderOf (ns : List Int) : List Nat := (List.range ns.length).mergeSort (leK fun i => ns.getD i 0)
theorem dataLe_int (k : Nat → Int) (i j : Nat) : dataLe false (fun i => PyData.int (k i)) i j = leK k i j := by
  show (!(decide (k j < k i) || (!decide (k i < k j) && false))) = decide (k i ≤ k j)
  rw [Bool.and_false, Bool.or_false]
  by_cases h : k j < k i
  · rw [decide_eq_true h, decide_eq_false (by omega)]
    rfl
  · rw [decide_eq_false h, decide_eq_true (by omega)]
    rfl
theorem vals_each {out : List Value} {is : List Nat} (h : EachIs (fun v (i : Nat) => ∃ t, v = .int (i : Int) t) out is) : L2.Vals (is.map fun (i : Nat) => L2.V.int (i : Int)) out := by
  induction h with
  | nil => exact .nil
  | cons h _ ih => exact .cons h ih
end Fp
namespace Fp
open PySem PySem.Spec PyProof.Rows L2 LamX
section
variable {X : Cx}
theorem cr_range1 : CallR X (.type "range") (fun vs H Q => ∃ j, vs = [V.int j] ∧ ∀ p, H p = none → Q (.ref p) (upd H p (.rng 0 j))) := by
  intro pins s σ H vs us Q I r h
  obtain ⟨j, rfl, q⟩ := h
  obtain ⟨u, rfl, t, rfl⟩ := vals1 r
  refine call_range_1 ⟨.ref s.heap.objs.size, upd H s.heap.objs.size (.rng 0 j), I.laid (t' := s.toks + 1 + 1) (fun b o e => Heap.get?_push_of_some _ e) (Nat.le_refl _) ?_, rfl, q _ (I.hok.fresh (Nat.le_refl _))⟩
  exact ⟨_, _, _, Heap.get?_push_size _ rfl⟩
/-- sorted(range(len(xs)), key=lambda i: xs[i]): l in slot iL holds xs -/
def tSortLam (T : List (Addr × Str)) (iL : Nat) (ta : TA) : TE := fun σ H Q => ta σ H fun vs H1 => ∃ (r l : Addr) (ns : List Int), vs = [.ref r] ∧ H1 r = some (.rng 0 (ns.length : Int)) ∧ Tabs T H1 ∧ σ[iL]? = some (some (.ref l)) ∧ H1 l = some (.lst (ns.map V.int)) ∧ ns.length ≤ 1000 ∧
  ∀ p H2, ExtN H1 H2 → Tabs T H2 → H2 p = none → Q (.ref p) (upd H2 p (.lst ((orderOf ns).map fun (i : Nat) => V.int (i : Int))))
theorem pe_sortLam {T : List (Addr × Str)} {c P : Addr} {iL k : Nat} {e : Expr} {ta : TA} {params : Arguments} {scope : Scope} {xL xP : Str} {p p1 p2 p3 lpos kpos pos : Pos} (hg : Gl X "sorted") (hm : X.mg "sorted" = none) (ha : PA X [e] ta)
    (TB : TabB X.base X.mg c P) (hcode : X.env.code = .ref c) (hmT : (P, X.env.qual ++ "<lambda>") ∈ T) (hu : ∀ p ∈ T, p.1 = P → p.2 = X.env.qual ++ "<lambda>") (hr : Room k X.A) (hN : X.N[iL]? = some xL)
    (hcalm : X.calm = true)
    (hcL : X.env.scope.names.lookup xL = some .cell) (hkind : scope.kind = .function) (hco : scope.isCoroutine = false) (hgen : scope.isGenerator = false) (hnm : scope.names = [(xP, .local), (xL, .free)]) (hne : (xP == xL) = false)
    (hdef : defaultsOf params X.env = ([], []))
    (hbind : ∀ (q : Str) (cl : List (Str × Addr)) (pm cv ctv v : Value), bindArgs (PySem.W.kla_fn "<lambda>" q params (.Subscript (.Name xL p1) (.Name xP p2) p3) scope cl pm cv ctv) ⟨[v], []⟩ = pure [(xP, v)])
    (hd1 : (xL == ("__debug__" : Str)) = false := by decide) (hd2 : (xP == ("__debug__" : Str)) = false := by decide) (hd3 : (xL == ("__classdict__" : Str)) = false := by decide)
    (he : backTo pos (starEach [e] X.env) = (false, eval e X.env) :: backTo pos (starEach [] X.env) := by rfl) (hpl : (backTo pos (starEach [e] X.env)).any (·.1) = false := by rfl) :
    PE X (.Call (.Name "sorted" p) [e] [⟨some "key", .Lambda params (.Subscript (.Name xL p1) (.Name xP p2) p3) scope lpos, kpos⟩] pos) (tSortLam T iL ta) := by
  refine ⟨fun pins s σ H Q I h => ?_⟩
  refine wpAny_Call_Name_kw (ld_blt I hg hm (show bootBuiltins "sorted" = some (.builtin "sorted") by decide +kernel) ?_)
  refine PyProof.Rows.callWith_kw (thn (ha.run pos pins s σ H _ I h) fun us s1 ⟨vs, H1, I1, r1, q1⟩ => ?_) he hpl rfl rfl
  obtain ⟨r, l, ns, rfl, hrng, hT, hσ, hl, hlen, q⟩ := q1
  obtain ⟨u1, rfl, e1⟩ := vals1 r1
  obtain rfl : u1 = Value.ref r := e1
  show wpAny _ _ (evalAll ((do let v ← eval (.Lambda params (.Subscript (.Name xL p1) (.Name xP p2) p3) scope lpos) X.env; standAt pos; pure v) :: [])) _ _ s1
  refine wpAny_evalAll_cons (wpAny_bind (lam_make2 I1 TB hcode hmT hu hT hdef (fun y hy ey => ?_) fun f c' pm ctv H2 s2 I2 eN T2 hf hfn hfr hco2 => wpAny_bind (wpAny_standAt (wpAny_pure (wpAny_evalAll_nil ?_)))))
  · rw [hnm] at hy
    rcases List.mem_cons.mp hy with z | z
    · rw [z] at ey
      cases ey
    · rw [List.mem_singleton.mp z]
      exact I1.ok.has _ (.inl hcL)
  show wpAny _ _ (call (.builtin "sorted") [.ref r] [(Str.ofString "key", .ref f)]) _ _ _
  have hr2 : H2 r = some (.rng 0 (ns.length : Int)) := eN r _ hrng (fun ps z => by cases z)
  have hl2 : H2 l = some (.lst (ns.map V.int)) := eN l _ hl (fun ps z => by cases z)
  obtain ⟨t, u, v, hrr⟩ := I2.hok r _ hr2
  obtain ⟨hz, its, cn, hv, hget⟩ := I2.hok l _ hl2
  obtain ⟨m, hn, hloc⟩ := I2.loc
  obtain ⟨ul, rul, look⟩ := hloc iL xL (.ref l) hN hσ (.inr (.inl hcL))
  obtain rfl : ul = Value.ref l := rul
  obtain ⟨cL, hcl, hcell⟩ : ∃ cL, X.env.cells.lookup xL = some cL ∧ s2.heap.IsCell cL (some (.ref l)) := by
    rcases look with ⟨hk, _⟩ | ⟨_, c3, h1, h2⟩
    · have hk : X.env.scope.names.lookup xL = some .local := hk
      rw [hcL] at hk
      cases hk
    · exact ⟨c3, h1, h2⟩
  have hclo : (cloFrom X.env.cells scope.names []).lookup xL = some cL := by
    rw [hnm]
    show (cloFrom X.env.cells [(xL, .free)] []).lookup xL = some cL
    show ([(xL, (X.env.cells.lookup xL).getD 0)] : List (Str × Addr)).lookup xL = some cL
    rw [hcl]
    simp [List.lookup]
  obtain ⟨⟨oc, cvs, ct, hoc, hdc, hvc⟩, _, _⟩ := I2.hok c' _ hco2
  refine sorted_range_key (n := ns.length) (fun i => ns.getD i 0) (I2.ok.hd hcalm) hrr rfl (by omega) (by have := hr.un; omega) (fun i tt hi h tk kp => ?_) fun out c g h' tk p kg gh hgp hp lo each => ?_
  · have hx : (ns.map V.int)[i]? = some (.int (ns.getD i 0)) := by
      rw [List.getElem?_map, List.getElem?_eq_getElem hi, List.getD_eq_getElem?_getD, List.getElem?_eq_getElem hi]
      rfl
    obtain ⟨w', ew, tx, rfl⟩ := hv.get hx
    obtain ⟨oC, hoC, hdC⟩ := hcell
    refine key_turn (A := X.A.in1.in1) (cL := cL) (a := l) (its := its.toArray) (by show X.A.depth < recursionLimit; have := hr.dp; omega) (kp _ _ hf) hkind hco hgen ?_ ?_ ?_ hclo ⟨oC, kp _ _ hoC, hdC⟩ ⟨oc, cvs, ct, kp _ _ hoc, hdc, hvc⟩ (fun v => hbind _ _ _ _ _ v) (I2.nolimit.keeps kp) ⟨_, kp _ _ hget, rfl, cn, rfl⟩ (by omega) (by omega) (by simpa using ew) hd1 hd2 hd3
    · intro y hy
      rw [hnm] at hy
      rcases List.mem_cons.mp hy with z | z
      · rw [z]
        exact (fun e => nomatch e)
      · rw [List.mem_singleton.mp z]
        exact (fun e => nomatch e)
    · rw [hnm]
      simp [List.lookup]
    · rw [hnm]
      have : (xL == xP) = false := by
        rw [← Bool.not_eq_true] at hne ⊢
        intro z
        exact hne (by rw [beq_iff_eq] at z ⊢; exact z.symm)
      simp [List.lookup, this]
  · have I3 : Inv X pins σ H2 { s2 with heap := g, toks := tk } := I2.kept kg
    have fr : H2 p = none := I3.hok.fresh hgp
    have each2 : PySem.W.EachIs (fun v (i : Nat) => ∃ t, v = .int (i : Int) t) out (orderOf ns) := by
      have es : (List.range ns.length).mergeSort (PySem.W.dataLe false fun i => PyData.int (ns.getD i 0)) = orderOf ns := PySem.W.sort_congr fun a _ b _ => dataLe_int _ a b
      rw [← es]
      exact each
    have ol : (orderOf ns).length = ns.length := by
      unfold orderOf
      rw [List.length_mergeSort, List.length_range]
    have I4 : Inv X pins σ (upd H2 p (.lst ((orderOf ns).map fun (i : Nat) => V.int (i : Int)))) { s2 with heap := h', toks := tk } := I3.laid (t' := tk) gh hgp ⟨by rw [List.length_map, ol]; exact sz (by omega), out, c, vals_each each2, hp⟩
    exact ⟨.ref p, _, I4, rfl, q p H2 eN T2 fr⟩
end
end Fp

set_option Elab.async false
set_option linter.all false
set_option maxRecDepth 100000
set_option maxHeartbeats 4000000
/-! words by lengths: the mathematics. -/
namespace Fp
open PySem PyProof.Rows
/-! ### the order by buckets -/
theorem leK_total (k : Nat → Int) : PySem.W.TotalLe (leK k) where
  trans := fun a b c h1 h2 => by
    unfold leK at *
    have := of_decide_eq_true h1
    have := of_decide_eq_true h2
    exact decide_eq_true (by omega)
  total := fun a b => by
    unfold leK
    by_cases h : k a ≤ k b
    · exact .inl (decide_eq_true h)
    · exact .inr (decide_eq_true (by omega))
def buckets (k : Nat → Int) (n : Nat) : List Nat := (List.range 13).flatMap fun (v : Nat) => (List.range n).filter fun (i : Nat) => decide (k i = (v : Int))
theorem flat_one {α : Type} (X : List α) (c : Nat) : ∀ l : List Nat, l.Nodup → (l.flatMap fun v => if v = c then X else []) = if c ∈ l then X else []
  | [], _ => rfl
  | v :: r, h => by
    have h1 := List.nodup_cons.mp h
    have ih := flat_one X c r h1.2
    rw [List.flatMap_cons, ih]
    by_cases e : v = c
    · subst e
      rw [if_pos rfl, if_neg h1.1, if_pos (List.mem_cons_self ..), List.append_nil]
    · rw [if_neg e, List.nil_append]
      by_cases m : c ∈ r
      · rw [if_pos m, if_pos (List.mem_cons_of_mem _ m)]
      · rw [if_neg m, if_neg (fun z => by
          rcases List.mem_cons.mp z with z | z
          · exact e z.symm
          · exact m z)]
theorem rank_eq (k : Nat → Int) (c a : Nat) : PySem.W.sameRank (leK k) c a = decide (k a = k c) := by
  unfold PySem.W.sameRank leK
  by_cases h : k a = k c
  · rw [decide_eq_true h, decide_eq_true (by omega), decide_eq_true (by omega)]
    rfl
  · rw [decide_eq_false h]
    by_cases h2 : k c ≤ k a
    · rw [decide_eq_true h2, decide_eq_false (by omega)]
      rfl
    · rw [decide_eq_false h2]
      rfl
theorem order_buckets (k : Nat → Int) (n : Nat) (h : ∀ i, i < n → 0 ≤ k i ∧ k i ≤ 12) : (List.range n).mergeSort (leK k) = buckets k n := by
  symm
  refine PySem.W.sort_unique (leK_total k) ?_ fun c => ?_
  · unfold buckets
    rw [List.pairwise_flatMap]
    refine ⟨fun v _ => ?_, ?_⟩
    · refine List.Pairwise.imp_of_mem (fun {a b} ha hb _ => ?_) (List.Pairwise.filter _ List.pairwise_lt_range)
      have e1 := of_decide_eq_true (List.mem_filter.mp ha).2
      have e2 := of_decide_eq_true (List.mem_filter.mp hb).2
      exact decide_eq_true (by omega)
    · refine List.Pairwise.imp (fun {v v'} hv x hx y hy => ?_) List.pairwise_lt_range
      have e1 := of_decide_eq_true (List.mem_filter.mp hx).2
      have e2 := of_decide_eq_true (List.mem_filter.mp hy).2
      exact decide_eq_true (by omega)
  · have eq : PySem.W.sameRank (leK k) c = fun a => decide (k a = k c) := funext fun a => rank_eq k c a
    rw [eq]
    unfold buckets
    rw [List.filter_flatMap]
    by_cases hc : 0 ≤ k c ∧ k c ≤ 12
    · obtain ⟨vc, hvc⟩ := Int.eq_ofNat_of_zero_le hc.1
      have e : (fun v : Nat => ((List.range n).filter fun i => decide (k i = (v : Int))).filter fun a => decide (k a = k c)) = fun v => if v = vc then (List.range n).filter fun a => decide (k a = k c) else [] := by
        funext v
        by_cases ev : v = vc
        · subst ev
          rw [if_pos rfl, hvc, List.filter_filter]
          simp
        · rw [if_neg ev, List.filter_filter]
          apply List.filter_eq_nil_iff.mpr
          intro a _ z
          rw [Bool.and_eq_true, decide_eq_true_eq, decide_eq_true_eq] at z
          omega
      rw [e, flat_one _ _ _ List.nodup_range, if_pos (List.mem_range.mpr (by omega))]
    · have e1 : (List.range n).filter (fun a => decide (k a = k c)) = [] := by
        apply List.filter_eq_nil_iff.mpr
        intro a ha z
        have := h a (List.mem_range.mp ha)
        have := of_decide_eq_true z
        exact hc (by omega)
      rw [e1]
      apply List.flatMap_eq_nil_iff.mpr
      intro v _
      rw [List.filter_filter]
      apply List.filter_eq_nil_iff.mpr
      intro a ha z
      rw [Bool.and_eq_true, decide_eq_true_eq, decide_eq_true_eq] at z
      have := h a (List.mem_range.mp ha)
      exact hc (by omega)
/-! ### words -/
def lastOne : List Nat → Option Nat
  | [] => none
  | c :: r => match lastOne r with
    | some i => some (i + 1)
    | none => if c = 49 then some 0 else none
theorem lastOne_spec : ∀ w : List Nat, (lastOne w = none ∧ ∀ i : Nat, w[i]? ≠ some 49) ∨ ∃ i : Nat, lastOne w = some i ∧ w[i]? = some 49 ∧ ∀ k : Nat, i < k → w[k]? ≠ some 49
  | [] => .inl ⟨rfl, fun i h => by simp at h⟩
  | c :: r => by
    rcases lastOne_spec r with ⟨e, h⟩ | ⟨i, e, h1, h2⟩
    · by_cases hc : c = 49
      · refine .inr ⟨0, ?_, ?_, fun k hk => ?_⟩
        · show (match lastOne r with | some i => some (i + 1) | none => if c = 49 then some 0 else none) = some 0
          rw [e]
          exact if_pos hc
        · rw [hc]
          rfl
        · obtain ⟨j, rfl⟩ : ∃ j, k = j + 1 := ⟨k - 1, by omega⟩
          exact h j
      · refine .inl ⟨?_, fun i => ?_⟩
        · show (match lastOne r with | some i => some (i + 1) | none => if c = 49 then some 0 else none) = none
          rw [e]
          exact if_neg hc
        · cases i with
          | zero => exact fun z => hc (Option.some.inj z)
          | succ j => exact h j
    · refine .inr ⟨i + 1, ?_, h1, fun k hk => ?_⟩
      · show (match lastOne r with | some i => some (i + 1) | none => if c = 49 then some 0 else none) = some (i + 1)
        rw [e]
      · obtain ⟨j, rfl⟩ : ∃ j, k = j + 1 := ⟨k - 1, by omega⟩
        exact h2 j (by omega)
def lessW (w : List Nat) : List Nat := match lastOne w with
  | none => []
  | some i => w.take i ++ 48 :: List.replicate (w.length - i - 1) 49
def stepW (ns : List Nat) (st : List (List Nat) × Option (List Nat)) (p : Nat) : List (List Nat) × Option (List Nat) :=
  let b := match st.2 with
    | none => []
    | some w => lessW w
  let a := b ++ List.replicate (ns.getD p 0 - b.length) 49
  (st.1.set p a, some a)
def okW (ns : List Nat) : List Nat → List (List Nat) × Option (List Nat) → Bool
  | [], _ => true
  | p :: r, st => (match st.2 with
    | none => true
    | some w => (lastOne w).isSome) && okW ns r (stepW ns st p)
def iv (ns : List Nat) : List Int := ns.map fun (n : Nat) => (n : Int)
def startW (ns : List Nat) : List (List Nat) × Option (List Nat) := (List.replicate ns.length [], none)
def wordsOf (ns : List Nat) : List (List Nat) := ((buckets (fun i => (iv ns).getD i 0) ns.length).foldl (stepW ns) (startW ns)).1
def lightL : List Nat := [6, 4, 4, 4, 4, 4, 5, 5, 5, 5, 6, 6, 6, 6, 6, 6, 4, 5, 6, 4]
def darkL : List Nat := [7, 2, 3, 3, 4, 4, 5, 5, 5, 6, 6, 6, 7, 7, 7, 7, 6, 7, 7, 7]
def bitsVal (w : List Nat) : Nat := w.foldl (fun n c => 2 * n + if c = 49 then 1 else 0) 0
def bitsOf : Nat → Nat → List Nat → List Nat
  | 0, _, acc => acc
  | k + 1, n, acc => bitsOf k (n / 2) ((48 + n % 2) :: acc)
def lawLess (w : List Nat) : Option (List Nat) := if bitsVal w = 0 then none else some (bitsOf w.length (bitsVal w - 1) [])
def stepL (ns : List Nat) (len : Nat) (st : Option (List (List Nat) × List Nat)) (p : Nat) : Option (List (List Nat) × List Nat) := match st with
  | none => none
  | some (f, l) => if ns.getD p 0 = len then (match (if l = [] then some [] else lawLess l) with
      | none => none
      | some b => some (f.set p (b ++ List.replicate (len - b.length) 49), b ++ List.replicate (len - b.length) 49)) else some (f, l)
def rowL (ns : List Nat) (st : Option (List (List Nat) × List Nat)) (len : Nat) : Option (List (List Nat) × List Nat) := (List.range ns.length).foldl (stepL ns len) st
def lawW (ns : List Nat) : Option (List (List Nat) × List Nat) := ((List.range 12).map (· + 1)).foldl (rowL ns) (some (List.replicate ns.length [], []))
theorem light_ok : okW lightL (buckets (fun i => (iv lightL).getD i 0) lightL.length) (startW lightL) = true := by decide +kernel
theorem dark_ok : okW darkL (buckets (fun i => (iv darkL).getD i 0) darkL.length) (startW darkL) = true := by decide +kernel
theorem light_same : (lawW lightL).map (·.1) = some (wordsOf lightL) := by decide +kernel
theorem dark_same : (lawW darkL).map (·.1) = some (wordsOf darkL) := by decide +kernel
theorem third_some : (lawW [1, 3, 3, 3, 5, 5, 6, 6, 6]).isSome = true := by decide +kernel

theorem okW_at {ns : List Nat} : ∀ (ord : List Nat) (st0 : List (List Nat) × Option (List Nat)) (i p : Nat), ord[i]? = some p → okW ns ord st0 = true → ∀ w, ((ord.take i).foldl (stepW ns) st0).2 = some w → ∃ j, lastOne w = some j
  | [], _, i, p, h, _ => by simp at h
  | q :: r, st0, 0, p, h, ok => fun w hw => by
    unfold okW at ok
    rw [Bool.and_eq_true] at ok
    have h1 := ok.1
    have hw : st0.2 = some w := hw
    rw [hw] at h1
    exact Option.isSome_iff_exists.mp h1
  | q :: r, st0, i + 1, p, h, ok => by
    unfold okW at ok
    rw [Bool.and_eq_true] at ok
    exact okW_at r (stepW ns st0 q) i p h ok.2
def LenW (st : List (List Nat) × Option (List Nat)) : Prop := ∀ w, st.2 = some w → w.length ≤ 12
theorem lessW_le (w : List Nat) : (lessW w).length ≤ w.length := by
  unfold lessW
  rcases lastOne_spec w with ⟨e, _⟩ | ⟨i, e, h1, _⟩
  · rw [e]
    exact Nat.zero_le _
  · rw [e]
    have := (List.getElem?_eq_some_iff.mp h1).1
    show (w.take i ++ 48 :: List.replicate (w.length - i - 1) 49).length ≤ w.length
    rw [List.length_append, List.length_cons, List.length_replicate, List.length_take]
    omega
theorem lenW_step {ns : List Nat} (hn : ∀ n ∈ ns, n ≤ 12) {st : List (List Nat) × Option (List Nat)} (h : LenW st) (p : Nat) : LenW (stepW ns st p) := by
  intro w hw
  have hg : ns.getD p 0 ≤ 12 := by
    rw [List.getD_eq_getElem?_getD]
    cases e : ns[p]? with
    | none => exact Nat.zero_le _
    | some n => exact hn n (List.mem_of_getElem? e)
  have e : (match st.2 with | none => [] | some w => lessW w) ++ List.replicate (ns.getD p 0 - (match st.2 with | none => [] | some w => lessW w).length) 49 = w := Option.some.inj hw
  rw [← e, List.length_append, List.length_replicate]
  cases h2 : st.2 with
  | none => show 0 + (ns.getD p 0 - 0) ≤ 12; omega
  | some u =>
    have := h u h2
    have := lessW_le u
    show (lessW u).length + (ns.getD p 0 - (lessW u).length) ≤ 12
    omega
theorem lenW_fold {ns : List Nat} (hn : ∀ n ∈ ns, n ≤ 12) : ∀ (ord : List Nat) (st : List (List Nat) × Option (List Nat)), LenW st → LenW (ord.foldl (stepW ns) st)
  | [], _, h => h
  | p :: r, st, h => lenW_fold hn r _ (lenW_step hn h p)
theorem lenW_start (ns : List Nat) : LenW (startW ns) := fun w h => nomatch h
theorem words_len (ns : List Nat) : ∀ (ord : List Nat) (st : List (List Nat) × Option (List Nat)), (ord.foldl (stepW ns) st).1.length = st.1.length
  | [], _ => rfl
  | p :: r, st => by
    rw [List.foldl_cons, words_len ns r]
    exact List.length_set
theorem mem_buckets {k : Nat → Int} {n p : Nat} (h : p ∈ buckets k n) : p < n := by
  unfold buckets at h
  obtain ⟨v, _, hv⟩ := List.mem_flatMap.mp h
  exact List.mem_range.mp (List.mem_filter.mp hv).1
theorem iv_len (ns : List Nat) : (iv ns).length = ns.length := List.length_map ..
theorem order_iv {ns : List Nat} (hn : ∀ n ∈ ns, n ≤ 12) : orderOf (iv ns) = buckets (fun i => (iv ns).getD i 0) ns.length := by
  unfold orderOf
  rw [iv_len]
  refine order_buckets _ _ fun i hi => ?_
  have e : (iv ns).getD i 0 = (ns[i] : Int) := by
    unfold iv
    rw [List.getD_eq_getElem?_getD, List.getElem?_map, List.getElem?_eq_getElem hi]
    rfl
  have := hn ns[i] (List.getElem_mem hi)
  show 0 ≤ (iv ns).getD i 0 ∧ (iv ns).getD i 0 ≤ 12
  rw [e]
  omega
theorem lens_light : ∀ w ∈ Fp.wordsOf lightL, w.length ≤ 12 := by decide +kernel
theorem lens_dark : ∀ w ∈ Fp.wordsOf darkL, w.length ≤ 12 := by decide +kernel
theorem len_light : (Fp.wordsOf lightL).length = 20 := by decide +kernel
theorem len_dark : (Fp.wordsOf darkL).length = 20 := by decide +kernel
def runT (W : List (List Nat)) (r : Nat) : List Nat := if r < 16 then W.getD r [] else W.getD (15 + r / 16) [] ++ W.getD (r - r / 16 * 16) []
theorem foldl_keep {α β : Type} (f : Option α → β → Option α) (h : ∀ b, f none b = none) : ∀ l : List β, l.foldl f none = none
  | [] => rfl
  | b :: r => by
    rw [List.foldl_cons, h]
    exact foldl_keep f h r
theorem fold_take {α β : Type} (f : Option α → β → Option α) (h : ∀ b, f none b = none) (l : List β) (s : Option α) (i : Nat) (e : (l.take i).foldl f s = none) : l.foldl f s = none := by
  rw [← List.take_append_drop i l, List.foldl_append, e]
  exact foldl_keep f h _
theorem stepL_none (ns : List Nat) (len p : Nat) : stepL ns len none p = none := rfl
theorem rowL_none (ns : List Nat) (len : Nat) : rowL ns none len = none := foldl_keep _ (stepL_none ns len) _
def ls12 : List Nat := (List.range 12).map (· + 1)
theorem ls12_at {i : Nat} (h : i < 12) : ls12[i]? = some (i + 1) := by
  unfold ls12
  rw [List.getElem?_map, List.getElem?_range h]
  rfl
theorem lawW_eq (ns : List Nat) : lawW ns = ls12.foldl (rowL ns) (some (List.replicate ns.length [], [])) := rfl
theorem lawLess_len {l b : List Nat} (h : lawLess l = some b) : b.length = l.length := by
  have key : ∀ (k n : Nat) (acc : List Nat), (bitsOf k n acc).length = k + acc.length := by
    intro k
    induction k with
    | zero => intro n acc; show acc.length = 0 + acc.length; omega
    | succ k ih =>
      intro n acc
      show (bitsOf k (n / 2) ((48 + n % 2) :: acc)).length = _
      rw [ih, List.length_cons]
      omega
  unfold lawLess at h
  split at h
  · cases h
  · have := Option.some.inj h
    rw [← this, key]
    rfl
theorem stepL_no {ns : List Nat} {len p : Nat} {f : List (List Nat)} {l : List Nat} (h : ¬ ns.getD p 0 = len) : stepL ns len (some (f, l)) p = some (f, l) := if_neg h
theorem stepL_yes {ns : List Nat} {len p : Nat} {f : List (List Nat)} {l b : List Nat} (h : ns.getD p 0 = len) (hb : (if l = [] then some [] else lawLess l) = some b) :
    stepL ns len (some (f, l)) p = some (f.set p (b ++ List.replicate (len - b.length) 49), b ++ List.replicate (len - b.length) 49) := by
  refine (if_pos h).trans ?_
  rw [hb]
theorem stepL_bad {ns : List Nat} {len p : Nat} {f : List (List Nat)} {l : List Nat} (h : ns.getD p 0 = len) (hb : (if l = [] then some [] else lawLess l) = none) : stepL ns len (some (f, l)) p = none := by
  refine (if_pos h).trans ?_
  rw [hb]
end Fp

set_option Elab.async false
set_option linter.all false
set_option maxRecDepth 100000
set_option maxHeartbeats 4000000
/-! words by lengths: which lengths have words, and that no word begins another. -/
namespace Fp
open PySem PyProof.Rows
abbrev veB : List Value := [.type "ValueError", .type "Exception", .type "BaseException", .type "object"]
theorem exm_own {K : PySem.W.Frag} {S : Addr} (h1 : PySem.W.subIn K (.ref S) (.type "BaseException") = some true) (h2 : PySem.W.isClsIn K S = true) (h3 : PySem.W.typeIn K (.ref S) = some (.type "type")) (h4 : PySem.W.subIn K (.ref S) (.ref S) = some true) : PySem.W.exmOne K (.ref S) (.ref S) = some true := by
  unfold PySem.W.isClsIn at h2
  simp [PySem.W.exmOne, PySem.W.kitCls, h1, h2, h3, h4]
def wt (n : Nat) : Nat := 2 ^ (12 - n)
def sumW (ns ps : List Nat) : Nat := (ps.map fun p => wt (ns.getD p 0)).sum
def Bits (w : List Nat) : Prop := ∀ c ∈ w, c = 48 ∨ c = 49
def lo (w : List Nat) : Nat := bitsVal w * wt w.length
theorem val_from (w : List Nat) : ∀ a : Nat, w.foldl (fun n c => 2 * n + if c = 49 then 1 else 0) a = a * 2 ^ w.length + bitsVal w := by
  induction w with
  | nil => intro a; show a = a * 1 + 0; omega
  | cons c r ih =>
    intro a
    have e1 := ih (2 * a + if c = 49 then 1 else 0)
    have e2 := ih (2 * 0 + if c = 49 then 1 else 0)
    show r.foldl _ (2 * a + if c = 49 then 1 else 0) = a * 2 ^ (r.length + 1) + r.foldl _ (2 * 0 + if c = 49 then 1 else 0)
    rw [e1, e2, Nat.pow_succ, Nat.add_mul, Nat.mul_zero, Nat.zero_add, ← Nat.add_assoc]
    congr 2
    rw [Nat.mul_comm (2 ^ r.length) 2, ← Nat.mul_assoc, Nat.mul_comm a 2]
theorem val_app (u v : List Nat) : bitsVal (u ++ v) = bitsVal u * 2 ^ v.length + bitsVal v := by
  show (u ++ v).foldl _ 0 = _
  rw [List.foldl_append]
  exact val_from v _
theorem val_cons (c : Nat) (r : List Nat) : bitsVal (c :: r) = (if c = 49 then 1 else 0) * 2 ^ r.length + bitsVal r := by
  show r.foldl _ (2 * 0 + if c = 49 then 1 else 0) = _
  rw [val_from, Nat.mul_zero, Nat.zero_add]
theorem val_ones (n : Nat) : bitsVal (List.replicate n 49) + 1 = 2 ^ n := by
  induction n with
  | zero => rfl
  | succ k ih =>
    rw [List.replicate_succ, val_cons, if_pos rfl, List.length_replicate, Nat.one_mul, Nat.pow_succ, Nat.add_assoc, ih]
    omega
theorem val_lt (w : List Nat) : bitsVal w < 2 ^ w.length := by
  induction w with
  | nil => exact Nat.one_pos
  | cons c r ih =>
    rw [val_cons, List.length_cons, Nat.pow_succ]
    split <;> omega
theorem val_none {w : List Nat} (h : ∀ i : Nat, w[i]? ≠ some 49) : bitsVal w = 0 := by
  induction w with
  | nil => rfl
  | cons c r ih =>
    rw [val_cons, if_neg (fun e => h 0 (by rw [e]; rfl)), Nat.zero_mul, Nat.zero_add]
    exact ih fun i => h (i + 1)
theorem less_val {w : List Nat} {i : Nat} (hb : Bits w) (h : lastOne w = some i) : Bits (lessW w) ∧ (lessW w).length = w.length ∧ bitsVal (lessW w) + 1 = bitsVal w := by
  rcases lastOne_spec w with ⟨e, _⟩ | ⟨i2, e, h1, h2⟩
  · rw [e] at h
    cases h
  · rw [e] at h
    cases h
    obtain ⟨hi, h1'⟩ := List.getElem?_eq_some_iff.mp h1
    have ew : w = w.take i ++ 49 :: w.drop (i + 1) := by
      conv => lhs; rw [← List.take_append_drop i w]
      rw [List.drop_eq_getElem_cons hi, h1']
    have hz : bitsVal (w.drop (i + 1)) = 0 := val_none fun k => by
      rw [List.getElem?_drop]
      exact h2 _ (by omega)
    have dl : (w.drop (i + 1)).length = w.length - i - 1 := by rw [List.length_drop]; omega
    have el : lessW w = w.take i ++ 48 :: List.replicate (w.length - i - 1) 49 := by
      unfold lessW
      rw [e]
    refine ⟨fun c hc => ?_, ?_, ?_⟩
    · rw [el] at hc
      rcases List.mem_append.mp hc with z | z
      · exact hb c (List.mem_of_mem_take z)
      · rcases List.mem_cons.mp z with z | z
        · exact .inl z
        · exact .inr (List.mem_replicate.mp z).2
    · rw [el, List.length_append, List.length_cons, List.length_replicate, List.length_take]
      omega
    · have v1 : bitsVal w = bitsVal (w.take i) * 2 ^ (w.length - i - 1 + 1) + 2 ^ (w.length - i - 1) := by
        conv => lhs; rw [ew]
        rw [val_app, val_cons, if_pos rfl, hz, List.length_cons, dl, Nat.one_mul]
        rfl
      have v2 : bitsVal (lessW w) = bitsVal (w.take i) * 2 ^ (w.length - i - 1 + 1) + bitsVal (List.replicate (w.length - i - 1) 49) := by
        rw [el, val_app, val_cons, if_neg (by decide), List.length_cons, List.length_replicate, Nat.zero_mul, Nat.zero_add]
      rw [v1, v2, Nat.add_assoc, val_ones]
theorem new_word {u : List Nat} {v n : Nat} (hb : Bits u) (hl : u.length ≤ n) (hn : n ≤ 12) (hv : bitsVal u + 1 = v) : Bits (u ++ List.replicate (n - u.length) 49) ∧ (u ++ List.replicate (n - u.length) 49).length = n ∧ lo (u ++ List.replicate (n - u.length) 49) + wt n = v * wt u.length := by
  have l : (u ++ List.replicate (n - u.length) 49).length = n := by
    rw [List.length_append, List.length_replicate]
    omega
  refine ⟨fun c hc => ?_, l, ?_⟩
  · rcases List.mem_append.mp hc with z | z
    · exact hb c z
    · exact .inr (List.mem_replicate.mp z).2
  · unfold lo
    rw [l]
    have e : bitsVal (u ++ List.replicate (n - u.length) 49) + 1 = v * 2 ^ (n - u.length) := by
      rw [val_app, List.length_replicate, Nat.add_assoc, val_ones, ← hv, Nat.add_mul, Nat.one_mul]
    have e2 : bitsVal (u ++ List.replicate (n - u.length) 49) * wt n + wt n = (bitsVal (u ++ List.replicate (n - u.length) 49) + 1) * wt n := by
      rw [Nat.add_mul, Nat.one_mul]
    rw [e2, e, Nat.mul_assoc]
    congr 1
    unfold wt
    rw [← Nat.pow_add]
    congr 1
    omega
def Ap (u v : List Nat) : Prop := lo u + wt u.length ≤ lo v ∨ lo v + wt v.length ≤ lo u
structure Iv (ns done : List Nat) (st : List (List Nat) × Option (List Nat)) : Prop where
  len : st.1.length = ns.length
  no : st.2 = none → done = []
  last : ∀ w, st.2 = some w → Bits w ∧ w.length ≤ 12 ∧ lo w + sumW ns done = 4096
  each : ∀ p ∈ done, Bits (st.1.getD p []) ∧ (st.1.getD p []).length = ns.getD p 0 ∧ 4096 ≤ lo (st.1.getD p []) + sumW ns done
  apart : ∀ p ∈ done, ∀ q ∈ done, p ≠ q → Ap (st.1.getD p []) (st.1.getD q [])
theorem iv_start (ns : List Nat) : Iv ns [] (startW ns) where
  len := List.length_replicate
  no := fun _ => rfl
  last := fun w h => nomatch h
  each := fun p h => nomatch h
  apart := fun p h => nomatch h
theorem getD_set {l : List (List Nat)} {p q : Nat} {a : List Nat} (h : p < l.length) : (l.set p a).getD q [] = if p = q then a else l.getD q [] := by
  rw [List.getD_eq_getElem?_getD, List.getElem?_set]
  by_cases e : p = q
  · rw [if_pos e, if_pos e, if_pos h]
    rfl
  · rw [if_neg e, if_neg e, List.getD_eq_getElem?_getD]
theorem iv_step {ns done : List Nat} {st : List (List Nat) × Option (List Nat)} {p : Nat} (h : Iv ns done st) (hp : p < ns.length) (nd : p ∉ done) (h12 : ns.getD p 0 ≤ 12) (hs : ∀ w, st.2 = some w → w.length ≤ ns.getD p 0 ∧ ∃ i, lastOne w = some i) : Iv ns (p :: done) (stepW ns st p) ∧ ∀ w, (stepW ns st p).2 = some w → w.length = ns.getD p 0 := by
  obtain ⟨a, ea, ba, la, sa⟩ : ∃ a, stepW ns st p = (st.1.set p a, some a) ∧ Bits a ∧ a.length = ns.getD p 0 ∧ lo a + wt (ns.getD p 0) + sumW ns done = 4096 := by
    cases e : st.2 with
    | none =>
      have n := new_word (u := []) (v := 1) (n := ns.getD p 0) (fun c hc => nomatch hc) (Nat.zero_le _) h12 rfl
      refine ⟨_, by unfold stepW; rw [e], n.1, n.2.1, ?_⟩
      rw [h.no e, n.2.2]
      rfl
    | some w =>
      obtain ⟨hl, i, hi⟩ := hs w e
      obtain ⟨b1, b2, b3⟩ := h.last w e
      obtain ⟨c1, c2, c3⟩ := less_val b1 hi
      have n := new_word (u := lessW w) (v := bitsVal w) (n := ns.getD p 0) c1 (by omega) h12 c3
      refine ⟨_, by unfold stepW; rw [e], n.1, n.2.1, ?_⟩
      rw [n.2.2, c2]
      exact b3
  have sc : sumW ns (p :: done) = wt (ns.getD p 0) + sumW ns done := by
    unfold sumW
    rw [List.map_cons, List.sum_cons]
  have g : ∀ q, (st.1.set p a).getD q [] = if p = q then a else st.1.getD q [] := fun q => getD_set (by rw [h.len]; exact hp)
  rw [ea]
  refine ⟨⟨by rw [List.length_set]; exact h.len, (fun z => nomatch z), fun w hw => ?_, fun q hq => ?_, fun q hq r hr ne => ?_⟩, fun w hw => ?_⟩
  · cases hw
    exact ⟨ba, by omega, by rw [sc]; omega⟩
  · rw [g, sc]
    by_cases e : p = q
    · rw [if_pos e, ← e]
      exact ⟨ba, la, by omega⟩
    · rw [if_neg e]
      rcases List.mem_cons.mp hq with z | z
      · exact absurd z.symm e
      · have := h.each q z
        exact ⟨this.1, this.2.1, by omega⟩
  · show Ap ((st.1.set p a).getD q []) ((st.1.set p a).getD r [])
    rw [g, g]
    by_cases e : p = q
    · rw [if_pos e, if_neg (by omega)]
      rcases List.mem_cons.mp hr with z | z
      · omega
      · have := (h.each r z).2.2
        exact .inl (by rw [la]; omega)
    · rw [if_neg e]
      by_cases e2 : p = r
      · rw [if_pos e2]
        rcases List.mem_cons.mp hq with z | z
        · omega
        · have := (h.each q z).2.2
          exact .inr (by rw [la]; omega)
      · rw [if_neg e2]
        rcases List.mem_cons.mp hq with z | z
        · omega
        · rcases List.mem_cons.mp hr with y | y
          · omega
          · exact h.apart q z r y ne
  · cases hw
    exact la
theorem wt_pos (n : Nat) : 0 < wt n := Nat.pow_pos (by decide)
theorem iv_run {ns : List Nat} : ∀ (rest done : List Nat) (st : List (List Nat) × Option (List Nat)), Iv ns done st → rest.Nodup → (∀ p ∈ rest, p < ns.length ∧ p ∉ done ∧ ns.getD p 0 ≤ 12) → rest.Pairwise (fun p q => ns.getD p 0 ≤ ns.getD q 0) → (∀ w, st.2 = some w → ∀ p ∈ rest, w.length ≤ ns.getD p 0) →
    (okW ns rest st = true → Iv ns (rest.reverse ++ done) (rest.foldl (stepW ns) st)) ∧ (okW ns rest st = false → 4096 < sumW ns done + sumW ns rest)
  | [], done, st, h, _, _, _, _ => ⟨fun _ => h, fun z => nomatch z⟩
  | p :: r, done, st, h, nd, hp, so, hl => by
    have n1 := List.nodup_cons.mp nd
    have s1 := List.pairwise_cons.mp so
    have p1 := hp p (List.mem_cons_self ..)
    have sr : sumW ns (p :: r) = wt (ns.getD p 0) + sumW ns r := by
      unfold sumW
      rw [List.map_cons, List.sum_cons]
    by_cases ok : ∀ w, st.2 = some w → ∃ i, lastOne w = some i
    · have okr : okW ns (p :: r) st = okW ns r (stepW ns st p) := by
        show ((match st.2 with | none => true | some w => (lastOne w).isSome) && okW ns r (stepW ns st p)) = _
        cases e : st.2 with
        | none => rfl
        | some w =>
          obtain ⟨i, hi⟩ := ok w e
          show ((lastOne w).isSome && _) = _
          rw [hi]
          rfl
      obtain ⟨st1, st2⟩ := iv_step h p1.1 p1.2.1 p1.2.2 fun w hw => ⟨hl w hw p (List.mem_cons_self ..), ok w hw⟩
      have ih := iv_run r (p :: done) (stepW ns st p) st1 n1.2 (fun q hq => ?_) s1.2 (fun w hw q hq => ?_)
      · rw [okr]
        refine ⟨fun z => ?_, fun z => ?_⟩
        · have := ih.1 z
          rw [List.reverse_cons, List.append_assoc]
          exact this
        · have := ih.2 z
          have sc : sumW ns (p :: done) = wt (ns.getD p 0) + sumW ns done := by
            unfold sumW
            rw [List.map_cons, List.sum_cons]
          omega
      · have := hp q (List.mem_cons_of_mem _ hq)
        refine ⟨this.1, fun z => ?_, this.2.2⟩
        rcases List.mem_cons.mp z with y | y
        · exact n1.1 (y ▸ hq)
        · exact this.2.1 y
      · rw [st2 w hw]
        exact s1.1 q hq
    · obtain ⟨w, hw, no⟩ : ∃ w, st.2 = some w ∧ ¬ ∃ i, lastOne w = some i := by
        cases e : st.2 with
        | none => exact absurd (fun w hw => nomatch e.symm.trans hw) ok
        | some w => exact ⟨w, rfl, fun z => ok fun u hu => by rw [e] at hu; cases hu; exact z⟩
      have hz : lastOne w = none := by
        cases e : lastOne w with
        | none => rfl
        | some i => exact absurd ⟨i, e⟩ no
      have okf : okW ns (p :: r) st = false := by
        show ((match st.2 with | none => true | some w => (lastOne w).isSome) && okW ns r (stepW ns st p)) = false
        rw [hw]
        show ((lastOne w).isSome && _) = false
        rw [hz]
        rfl
      rw [okf]
      refine ⟨(fun z => nomatch z), fun _ => ?_⟩
      have l0 : lo w = 0 := by
        rcases lastOne_spec w with ⟨_, h2⟩ | ⟨i, e, _⟩
        · unfold lo
          rw [val_none h2, Nat.zero_mul]
        · exact absurd ⟨i, e⟩ no
      have := (h.last w hw).2.2
      have := wt_pos (ns.getD p 0)
      omega
theorem prefix_lo {u v : List Nat} (hv : v.length ≤ 12) (h : v.take u.length = u) : lo u ≤ lo v ∧ lo v < lo u + wt u.length := by
  have ll : u.length ≤ v.length := by
    have := congrArg List.length h
    rw [List.length_take] at this
    omega
  have ev : v = u ++ v.drop u.length := by
    conv => lhs; rw [← List.take_append_drop u.length v]
    rw [h]
  have e1 : bitsVal v = bitsVal u * 2 ^ (v.length - u.length) + bitsVal (v.drop u.length) := by
    conv => lhs; rw [ev]
    rw [val_app, List.length_drop]
  have e2 := val_lt (v.drop u.length)
  rw [List.length_drop] at e2
  have e3 : wt u.length = 2 ^ (v.length - u.length) * wt v.length := by
    unfold wt
    rw [← Nat.pow_add]
    congr 1
    omega
  unfold lo
  rw [e1, e3, Nat.add_mul, Nat.mul_assoc]
  have := wt_pos v.length
  refine ⟨Nat.le_add_right _ _, Nat.add_lt_add_left ?_ _⟩
  exact Nat.mul_lt_mul_of_pos_right e2 this
theorem ap_no {u v : List Nat} (hv : v.length ≤ 12) (h : Ap u v) : v.take u.length ≠ u := fun e => by
  have := prefix_lo hv e
  have := wt_pos v.length
  rcases h with z | z <;> omega
theorem sum_range (ns : List Nat) : sumW ns (List.range ns.length) = (ns.map wt).sum := by
  unfold sumW
  congr 1
  apply List.ext_getElem?
  intro i
  rw [List.getElem?_map, List.getElem?_map]
  by_cases h : i < ns.length
  · rw [List.getElem?_range h, List.getElem?_eq_getElem h, Option.map_some, Option.map_some, List.getD_eq_getElem?_getD, List.getElem?_eq_getElem h]
    rfl
  · rw [List.getElem?_eq_none (by rw [List.length_range]; omega), List.getElem?_eq_none (by omega)]
    rfl
theorem iv_getD (ns : List Nat) (p : Nat) : (iv ns).getD p 0 = ((ns.getD p 0 : Nat) : Int) := by
  unfold iv
  rw [List.getD_eq_getElem?_getD, List.getElem?_map, List.getD_eq_getElem?_getD]
  cases ns[p]? <;> rfl
/-- the whole: refused where the parts are too many; else the words fit and stand apart -/
theorem words_whole {ns : List Nat} (hn : ∀ n ∈ ns, n ≤ 12) :
    (okW ns (buckets (fun i => (iv ns).getD i 0) ns.length) (startW ns) = false → 4096 < (ns.map wt).sum) ∧
    (okW ns (buckets (fun i => (iv ns).getD i 0) ns.length) (startW ns) = true → (ns.map wt).sum ≤ 4096 ∧ (wordsOf ns).length = ns.length ∧ (∀ p, p < ns.length → Bits ((wordsOf ns).getD p []) ∧ ((wordsOf ns).getD p []).length = ns.getD p 0) ∧
      ∀ p q, p < ns.length → q < ns.length → p ≠ q → ((wordsOf ns).getD q []).take ((wordsOf ns).getD p []).length ≠ (wordsOf ns).getD p []) := by
  have ho := order_iv hn
  have perm : (orderOf (iv ns)).Perm (List.range ns.length) := by
    unfold orderOf
    rw [iv_len]
    exact List.mergeSort_perm ..
  have srt : (orderOf (iv ns)).Pairwise (fun p q => ns.getD p 0 ≤ ns.getD q 0) := by
    have tr : ∀ a b c : Nat, leK (fun i => (iv ns).getD i 0) a b = true → leK (fun i => (iv ns).getD i 0) b c = true → leK (fun i => (iv ns).getD i 0) a c = true := fun a b c h1 h2 => by
      unfold leK at *
      have := of_decide_eq_true h1
      have := of_decide_eq_true h2
      exact decide_eq_true (by omega)
    have to : ∀ a b : Nat, (leK (fun i => (iv ns).getD i 0) a b || leK (fun i => (iv ns).getD i 0) b a) = true := fun a b => by
      unfold leK
      rw [Bool.or_eq_true, decide_eq_true_eq, decide_eq_true_eq]
      omega
    have := List.pairwise_mergeSort tr to (List.range (iv ns).length)
    refine List.Pairwise.imp (fun {a b} h => ?_) this
    have h2 := of_decide_eq_true h
    have h3 : (iv ns).getD a 0 ≤ (iv ns).getD b 0 := h2
    rw [iv_getD, iv_getD] at h3
    omega
  rw [← ho]
  have hg : ∀ p, ns.getD p 0 ≤ 12 := fun p => by
    rw [List.getD_eq_getElem?_getD]
    cases e : ns[p]? with
    | none => exact Nat.zero_le _
    | some n => exact hn n (List.mem_of_getElem? e)
  have main := iv_run (ns := ns) (orderOf (iv ns)) [] (startW ns) (iv_start ns) (perm.nodup_iff.mpr List.nodup_range) (fun p hp => ⟨List.mem_range.mp (perm.mem_iff.mp hp), (fun z => nomatch z), hg p⟩) srt (fun w hw => nomatch hw)
  have es : sumW ns (orderOf (iv ns)) = (ns.map wt).sum := by
    rw [← sum_range]
    unfold sumW
    exact (perm.map _).sum_nat
  refine ⟨fun z => ?_, fun z => ?_⟩
  · have := main.2 z
    rw [es] at this
    have s0 : sumW ns [] = 0 := rfl
    omega
  · have I := main.1 z
    have hw : ((orderOf (iv ns)).foldl (stepW ns) (startW ns)).1 = wordsOf ns := by
      unfold wordsOf
      rw [ho]
    have sr : sumW ns ((orderOf (iv ns)).reverse ++ []) = (ns.map wt).sum := by
      rw [← es, List.append_nil]
      unfold sumW
      exact ((List.reverse_perm _).map _).sum_nat
    have mem : ∀ p, p < ns.length → p ∈ (orderOf (iv ns)).reverse ++ [] := fun p hp => by
      rw [List.append_nil, List.mem_reverse]
      exact perm.mem_iff.mpr (List.mem_range.mpr hp)
    refine ⟨?_, by rw [← hw]; exact I.len, fun p hp => ?_, fun p q hp hq ne => ?_⟩
    · rw [← sr]
      cases e : ((orderOf (iv ns)).foldl (stepW ns) (startW ns)).2 with
      | none =>
        rw [I.no e]
        exact Nat.zero_le _
      | some w =>
        have := (I.last w e).2.2
        omega
    · rw [← hw]
      have := I.each p (mem p hp)
      exact ⟨this.1, this.2.1⟩
    · rw [← hw]
      have l := (I.each q (mem q hq)).2.1
      exact ap_no (by rw [l]; exact hg q) (I.apart p (mem p hp) q (mem q hq) ne)
theorem okW_snoc {ns : List Nat} (p : Nat) : ∀ (l : List Nat) (st : List (List Nat) × Option (List Nat)), okW ns l st = true → (∀ w, (l.foldl (stepW ns) st).2 = some w → ∃ i, lastOne w = some i) → okW ns (l ++ [p]) st = true
  | [], st, _, h => by
    show ((match st.2 with | none => true | some w => (lastOne w).isSome) && true) = true
    cases e : st.2 with
    | none => rfl
    | some w =>
      obtain ⟨i, hi⟩ := h w e
      show ((lastOne w).isSome && true) = true
      rw [hi]
      rfl
  | q :: r, st, ok, h => by
    have ok : ((match st.2 with | none => true | some w => (lastOne w).isSome) && okW ns r (stepW ns st q)) = true := ok
    rw [Bool.and_eq_true] at ok
    show ((match st.2 with | none => true | some w => (lastOne w).isSome) && okW ns (r ++ [p]) (stepW ns st q)) = true
    rw [Bool.and_eq_true]
    exact ⟨ok.1, okW_snoc p r _ ok.2 h⟩
end Fp

set_option Elab.async false
set_option linter.all false
set_option maxRecDepth 100000
set_option maxHeartbeats 4000000
/-! within an except suite (and in defs called from one): a list comprehension, isinstance of the handled error. -/
namespace Fp
open PySem PySem.Spec PyProof.Rows L2 L2H HotX
section
variable {X : Cx}
/-- the block of a comprehension that keeps the pins of the def around it -/
abbrev hotBlk (X : Cx) (s : Shared) (H : Hp) (scope : Scope) (ce : Env) (fp : List Addr) : Cx := { X.blk s H scope ce fp with pn := X.pn }
theorem hotBlk_hot {s : Shared} {H : Hp} {scope : Scope} {ce : Env} {fp : List Addr} (hc : HotC X) : HotC (hotBlk X s H scope ce fp) := hc
theorem hotBlk_inv {pins : List (Addr × Obj)} {σ τ : L2.St} {H H' : Hp} {s s' : Shared} {scope : Scope} {ce : Env} {fp : List Addr} (I : Inv X pins σ H s) (J : Inv (X.blk s H scope ce fp) [] τ H' s') (k : ∀ b o, s.heap.get? b = some o → s'.heap.get? b = some o) (hH : ∀ b, H b = none → b < s.heap.objs.size → H' b = none) (hl : s.heap.objs.size ≤ ce.locals) :
    Inv (hotBlk X s H scope ce fp) [] τ H' s' :=
  ⟨⟨J.ok.mod, J.ok.kind, J.ok.glob, J.ok.blt, J.ok.above, J.ok.inj, J.ok.has, J.ok.cab, J.ok.hd, J.ok.frames, J.ok.stk, J.ok.exf, J.ok.bs, J.ok.bsz, J.ok.noex, J.ok.exfs, J.ok.funs, J.ok.frf⟩, J.os, J.bare, J.base, J.loc, J.cell, J.free, J.freeC, fun p hp => by
    have hp : p ∈ X.pn := by simpa using hp
    obtain ⟨g, f, l, n, c⟩ := I.pin p (List.mem_append_left _ hp)
    have lt := Heap.lt_size g
    refine ⟨k _ _ g, hH _ f lt, fun z => ?_, fun hm => ?_, c⟩
    · have z : p.1 = ce.locals := z
      rw [z] at lt
      exact absurd lt (Nat.not_lt.mpr hl)
    · exact (List.mem_cons.mp (I.stkSub p.1 hm)).elim l n, J.hok, J.len⟩
theorem pe_lcHot {elt tg iter : Expr} {scope : Scope} {own : List (Str × Nat)} {pos : Pos} {wi : TI} {g : TG} {te : TE} (hc : HotC X) (hN : X.N.Nodup) (hi : PIH X tg iter wi) (ok : BlkOk X.N X.env.scope scope own)
    (hg : ∀ (s : Shared) (H : Hp) (C : Addr) (cl : List (Str × Addr)) (fp : List Addr), PG (hotBlk X s H scope (compEnvC scope cl C X.env) fp) tg g)
    (he : ∀ (s : Shared) (H : Hp) (C : Addr) (cl : List (Str × Addr)) (fp : List Addr), PE (hotBlk X s H scope (compEnvC scope cl C X.env) fp) elt te) (hs : ∀ x, foldedSetIterable iter X.env x = pure x := by intro _; rfl) :
    PE X (.ListComp elt [⟨tg, iter, [], 0⟩] scope pos) (tLc wi g tYes te (own.map (·.2))) := by
  refine ⟨fun pins s σ H Q I h => ?_⟩
  rw [eval_ListComp]
  have cf : ∀ y ∈ scope.names, y.2 = .free → ∃ c, X.env.cells.lookup y.1 = some c := fun y hy e => (ok.free y hy e).elim (fun k => I.ok.has _ (.inl k)) (fun k => I.ok.has _ (.inr k))
  refine wpAny_comprehension_free rfl hs (closure_ok cf) ok.kind (fun y hy e => by rw [ok.uniq y hy, e]) (thn (hi.run pins s σ H _ I h) fun xv s1 hx => thn hx fun itv s2 h2 => ?_)
  obtain ⟨it, fp, tn, J, H2, rfl, I2, T, st2, f2, q⟩ := h2
  refine wpAny_newObj_type (newEnv_comp ?_) (by show 0 ≤ sizeLine; decide)
  obtain ⟨D, hD⟩ : ∃ D, s2.heap.objs.size = D := ⟨_, rfl⟩
  obtain ⟨s3, e3⟩ : ∃ s3 : Shared, s3 = { s2 with heap := s2.heap.push { cls := .type "list", data := .seq ([] : List Value).toArray } } := ⟨_, rfl⟩
  obtain ⟨H3, eH⟩ : ∃ H3 : Hp, H3 = upd H2 D (.lst []) := ⟨_, rfl⟩
  obtain ⟨W, ⟨m0, w0⟩, turn⟩ := q D (I2.hok.fresh (Nat.le_of_eq hD))
  rw [← eH] at w0
  have k23 : ∀ b o, s2.heap.get? b = some o → s3.heap.get? b = some o := fun b o z => by
    rw [e3]
    exact Heap.get?_push_of_some _ z
  have z23 : s3.heap.objs.size = s2.heap.objs.size + 1 := by rw [e3]; exact Heap.size_push ..
  have I3 : Inv X pins σ H3 s3 := by
    rw [e3, eH]
    refine I2.laid (t' := s2.toks) (fun b o z => Heap.get?_push_of_some _ z) (Nat.le_of_eq hD) ⟨Nat.zero_le _, [], 0, .nil, ?_⟩
    rw [← hD]
    exact Heap.get?_push_size _ rfl
  have f3 : ∀ b ∈ fp, FpOk X pins H3 b ∧ b < s3.heap.objs.size := fun b hb => by
    obtain ⟨o, z, _⟩ := T.obj _ _ st2 b hb
    have lt := Heap.lt_size z
    refine ⟨⟨?_, (f2 b hb).2⟩, by rw [z23]; exact Nat.lt_succ_of_lt lt⟩
    rw [eH, upd_ne (by rw [← hD]; exact Nat.ne_of_lt lt)]
    exact (f2 b hb).1
  obtain ⟨ce, ece⟩ : ∃ ce : Env, ce = compEnvC scope (cellsFrom (s3.heap.objs.size + 1) scope.names (cloFrom X.env.cells scope.names [])) s3.heap.objs.size X.env := ⟨_, rfl⟩
  obtain ⟨s4, e4⟩ : ∃ s4 : Shared, s4 = { s3 with heap := pushCells (s3.heap.push { cls := .type "dict", data := .dict #[] }) scope.names } := ⟨_, rfl⟩
  have k34 : ∀ b o, s3.heap.get? b = some o → s4.heap.get? b = some o := fun b o z => by
    rw [e4]
    exact pushCells_keeps _ _ _ _ (Heap.get?_push_of_some _ z)
  have cL : ce.locals = s3.heap.objs.size := by rw [ece]; rfl
  have I4 : Inv (hotBlk X s3 H3 scope ce fp) [] (wipe σ (own.map (·.2))) H3 s4 := by
    refine hotBlk_inv I3 ?_ k34 (fun b z _ => z) (Nat.le_of_eq cL.symm)
    rw [ece, e4]
    exact block_start I3 ok hN f3
  have pg : PG (hotBlk X s3 H3 scope ce fp) tg g := by rw [ece]; exact hg _ _ _ _ _
  have pe : PE (hotBlk X s3 H3 scope ce fp) elt te := by rw [ece]; exact he _ _ _ _ _
  have st4 : tn 0 s4.heap := T.keep _ _ _ st2 fun b _ o z => k34 _ _ (k23 _ _ z)
  have fpb : ∀ {τ : L2.St} {H' : Hp} {s' : Shared}, Inv (hotBlk X s3 H3 scope ce fp) [] τ H' s' → (∀ b ∈ fp, H' b = none) → ∀ b ∈ fp, FpOk (hotBlk X s3 H3 scope ce fp) [] H' b := fun {τ H' s'} I' hn b hb =>
    ⟨hn b hb, (I'.ok.exf b hb).1, I'.ok.exfs b hb, .inl hb, fun x c z => (I'.ok.exf b hb).2 x c z, fun p hp => (f3 b hb).1.2.2.2.2.2 p (List.mem_append_left _ (by simpa using hp))⟩
  have hot4 : HotC (hotBlk X s3 H3 scope ce fp) := hc
  show codeAny _ _ (.compStart (.ListComp elt [⟨tg, iter, [], 0⟩] scope pos) 0 (.ref it) (.ref s2.heap.objs.size) _) _ _
  rw [← e3, ← e4, hD]
  show codeAny _ _ (.compStart _ 0 _ _ (compEnvC scope (cellsFrom (s3.heap.objs.size + 1) scope.names (cloFrom X.env.cells scope.names [])) s3.heap.objs.size X.env)) (compPost _ _ _ none _ _ s3.heap.objs.size) _
  rw [← ece, ← cL]
  have loop : codeAny (model X.prog X.w) X.A (.compLoop (.ListComp elt [⟨tg, iter, [], 0⟩] scope pos) 0 (.ref it) (.ref D) ce) (compPost (model X.prog X.w) X.A X.xe none (EP X pins σ Q) (.ref D) ce.locals) s4 := by
    refine compLoop_any (fun n s' => ∃ i H', Inv (hotBlk X s3 H3 scope ce fp) [] (wipe σ (own.map (·.2))) H' s' ∧ tn i s'.heap ∧ (∀ b ∈ fp, H' b = none) ∧ W i n H') ?_ m0 ⟨0, H3, I4, st4, fun b hb => (f3 b hb).1.1, w0⟩
    rintro n s5 ⟨i, H5, I5, st5, n5, w5⟩
    rcases turn i n H5 w5 with ⟨stop, qq⟩ | ⟨go, Nx, hNx, step⟩
    · refine thnF (T.done (hotBlk X s3 H3 scope ce fp) rfl rfl rfl hot4 i [] s5 _ H5 (fun _ _ => False) I5 (fpb I5 n5) st5 stop) fun r s6 ⟨hr, I6⟩ => ?_
      subst hr
      have I7 : Inv X pins σ H5 s6 := I3.call' (ch := fp) I6.os I6.base I6.hok I6.bare fun b hb => ⟨(f3 b hb).1.2.2.2.1, (f3 b hb).1.2.1, (f3 b hb).1.2.2.2.2.1, (f3 b hb).1.2.2.2.2.2⟩
      obtain ⟨m, hn, _⟩ := I6.loc
      have fr : FpOk X pins H5 ce.locals := I3.fpOk (Nat.le_of_eq cL.symm) I6.free
      refine ⟨m, hn, fun h'' sb => ?_⟩
      exact ⟨.ref D, H5, I7.turned (t' := s6.toks) (fun b o hb z => (sb.2 b hb).trans z) fr.1 fr.2.1 fr.2.2.2.1 fr.2.2.2.2.1 fr.2.2.2.2.2, rfl, qq⟩
    · refine thnF (T.item (hotBlk X s3 H3 scope ce fp) rfl rfl rfl hot4 i [] s5 _ H5 (fun _ _ => False) I5 (fpb I5 n5) st5 go) fun r s6 ⟨u, hr, h6⟩ => ?_
      subst hr
      refine thnF h6 fun _ s7 ⟨x, H7, I7, r7, y7, st7, n7⟩ => ?_
      refine thnF (pg.run _ s7 _ H7 x u _ (I7.pinned (fpb I7 n7) (T.obj _ _ st7)) r7 (step x H7 y7)) fun _ s8 ⟨σ8, H8, I8, hw8, q8⟩ => ?_
      refine thnF ((pts_nil (X := hotBlk X s3 H3 scope ce fp)).run _ s8 σ8 H8 (fun b H' => b = true ∧ te σ8 H' fun y H4 => ∃ acc, H4 D = some (.lst acc) ∧ acc.length < sizeLine ∧ Nx (upd H4 D (.lst (acc ++ [y])))) I8 ⟨rfl, q8⟩) fun b s8' ⟨H8', I8', hb, q8'⟩ => ?_
      subst hb
      rw [if_pos rfl]
      refine thnF (pe.run _ s8' σ8 H8' _ I8' q8') fun z s9 ⟨yv, H9, I9, r9, acc, hD9, hz9, nx⟩ => ?_
      refine app_ok (X := hotBlk X s3 H3 scope ce fp) I9 hD9 hz9 r9 fun s10 I10 => ?_
      obtain ⟨m', hm, w'⟩ := hNx _ nx
      have back : ∀ b ∈ fp, ∀ o, s7.heap.get? b = some o → s10.heap.get? b = some o ∧ _ := fun b hb o e =>
        let z := I10.pin (b, o) (List.mem_append_right _ (List.mem_append_right _ (mem_pinsAt hb e)))
        (⟨z.1, z.2.1⟩ : s10.heap.get? b = some o ∧ upd H9 D (.lst (acc ++ [yv])) b = none)
      refine ⟨m', hm, i + 1, _, (I10.unpinned (pins := [])).weak (by rw [← hw8, wipe_length]) (fun j v e => ?_), T.keep _ _ _ st7 fun b hb o e => (back b hb o e).1, fun b hb => ?_, w'⟩
      · rw [← hw8] at e
        exact (wipe_some e).1
      · obtain ⟨o, e, _⟩ := T.obj _ _ st7 b hb
        exact (back b hb o e).2
  exact codeAny_compStart_list loop (T.self X.A 0 _ _ _ st4 loop)
end
/-! ### defs that take the handled error -/
/-- the def f keeps spx, told of the handled error: its address, class and dict -/
structure FnP (P : Program) (w : World) (K : PySem.W.Frag) (mg : Str → Option Value) (base : Heap) (k : Nat) (f : Addr) (fd : FuncData) (ps : List Str) (spx : Addr → Value → Option Addr → Sp) : Prop where
  len : ∀ a cls d vs H Q E, spx a cls d vs H Q E → vs.length = ps.length
  run : ∀ (A : Around) (outer : List Env) (s : Shared) (H : Hp) (args : Args) (us : List Value) (vs : List V) (Q : VK) (p : Addr × Obj) (cls : Value) (d : Option Addr), RoomH k A → Hot1 A p → Zc cls d p.2 → PinOk outer H s p → Env0 P w K mg base A outer s H → BindsTo s fd args (ps.zip us) → Vals vs us → spx p.1 cls d vs H Q E0 →
    codeAny (model P w) A (.call (.ref f) args) (CR CX0 outer P w H s Q E0) s
theorem fnP_of {P : Program} {w : World} {K : PySem.W.Frag} {mg : Str → Option Value} {base : Heap} {k : Nat} {f : Addr} {x qual : Str} {st : Stmt} {fd : FuncData} {N ps : List Str} {spx : Addr → Value → Option Addr → Sp} (F : Fun K x qual st f fd) (S : FnScope N ps (defScope st))
    (len : ∀ a cls d vs H Q E, spx a cls d vs H Q E → vs.length = ps.length)
    (hbody : ∀ (cdv : Value) (A : Around) (outer : List Env) (s : Shared) (H : Hp) (vs : List V) (Q : VK) (p : Addr × Obj) (cls : Value) (d : Option Addr), Hot1 A p → Zc cls d p.2 → RoomH k (A.deeper (envOfC qual (defScope st) s.heap.objs.size f cdv)) → spx p.1 cls d vs H Q E0 →
      ∃ t, PSs (cxH CX0 P w K mg base N qual (defScope st) f cdv A outer s H E0 p) (defBody st) t ∧ t { nx := fun _ H' => Q .non H', rt := Q } (L2.start N vs) H) :
    FnP P w K mg base (k + 1) f fd ps spx := by
  obtain ⟨oc, od, kV, doc, pm, an, cdv, ct, osl, rfl, lk, hcd⟩ := F.ex
  refine ⟨len, fun A outer s H args us vs Q p cls d hr hot hz hpin e0 hb r hsp => ?_⟩
  have stay : ∀ b o, base.get? b = some o → s.heap.get? b = some o := fun b o z => (e0.bs b o z).1
  have KX := e0.mod.kin.keeps stay
  refine codeAny_call_function hr.depth (KX _ _ lk) rfl S.co S.gen rfl (PySem.W.codeRec_of KX hcd) (hb _ _ _ _ ?_)
  refine wpAny_newFunctionEnv_cells S.kind (fun y hy => (S.par y.1 (List.of_mem_zip hy).1).elim .inl fun z => .inr ⟨z, PySem.W.cellsFrom_some _ _ _ (.inl z)⟩) fun env he s1 y => ?_
  subst he
  refine ⟨(e0.mod.nolimit.keeps stay).keeps y.toInCall.keep, codeAny_func ?_⟩
  obtain ⟨t, ht, hq⟩ := hbody cdv A outer s H vs Q p cls d hot hz (hr.deeper _) hsp
  refine wpAny_mono (ht.run [] s1 (L2.start N vs) H _ (inv_startH S hpin e0 (len _ _ _ _ _ _ _ hsp) r y) hq) (fun fl s' hs => ?_) fun e s' hs => hs
  cases fl with
  | ret u =>
    obtain ⟨v, σ', H', J, rv, z⟩ := hs
    exact ⟨v, H', J.os, J.bare, J.base, J.hok, rv, z⟩
  | next =>
    obtain ⟨σ', H', J, z⟩ := hs
    exact ⟨.non, H', J.os, J.bare, J.base, J.hok, rfl, z⟩
  | brk => exact hs.elim fun _ z => z.elim fun _ z => z.2.elim
  | cont => exact hs.elim fun _ z => z.elim fun _ z => z.2.elim
section
variable {X : Cx}
theorem call_isPin {p : Addr × Obj} {D : Addr} (C : ExcC X.K D) (hp : p ∈ X.pn) (hz : Zc (.ref D) none p.2) (hf : ∃ vs, p.2.data = .fields vs) : CallR X (.builtin "isinstance") (rIsE X.K D p.1) := by
  intro pins s σ H xs us Q I r h
  obtain ⟨c, cv, b, rfl, hcv, e, q⟩ := h
  obtain ⟨u1, u2, rfl, r1, r2⟩ := vals2 r
  obtain rfl : u1 = Value.ref p.1 := r1
  obtain rfl := hcv _ r2
  obtain ⟨hget, _⟩ := I.pin p (List.mem_append_left _ hp)
  obtain ⟨vs, hv⟩ := hf
  obtain ⟨pa, oc, od, oda, osl⟩ := p
  obtain ⟨h1, h2⟩ := hz
  dsimp only at h1 h2 hv
  subst h1 h2 hv
  exact PySem.W.kia_one (PySem.W.handS_kitx_exc C.hg C.hk C.hs C.hd C.ha C.hn C.ht C.hm) I.kIn (⟨hget, rfl, rfl, trivial⟩ : PySem.W.InstAt s.heap pa _ D none) e (fun z => nomatch z) fun tk => ⟨.bl b, H, I.kept (t' := tk) fun _ _ z => z, rfl, q⟩
/-- f(e, ..) within the suite of the error at p -/
def tCallP (spx : Addr → Value → Option Addr → Sp) (a : Addr) (cls : Value) (d : Option Addr) (t : TA) : TE := fun σ H Q => t σ H fun vs H1 => spx a cls d vs H1 Q E0
theorem pe_callP {k : Nat} {f : Addr} {fd : FuncData} {ps : List Str} {spx : Addr → Value → Option Addr → Sp} {x : Str} {q pos : Pos} {e : Expr} {es : List Expr} {t : TA} {p : Addr × Obj} {cls : Value} {d : Option Addr} (F : FnP X.prog X.w X.K X.mg X.base k f fd ps spx) (hr : RoomH k X.A) (hp : p ∈ X.pn) (hot : Hot1 X.A p) (hz : Zc cls d p.2)
    (hg : Gl X x) (hm : X.mg x = some (.ref f)) (hk : PySem.W.keepIn X.K (.ref f) = true) (hb : Binds X.K fd ps []) (ha : PA X (e :: es) t)
    (hdb : (x == ("__debug__" : Str)) = false := by decide) (he : starEach (e :: es) X.env = (false, eval e X.env) :: starEach es X.env := by rfl) (hpl : (backTo pos (starEach es X.env)).any (·.1) = false := by rfl) :
    PE X (.Call (.Name x q) (e :: es) [] pos) (tCallP spx p.1 cls d t) := by
  refine ⟨fun pins s σ H Q I h => ?_⟩
  refine wpAny_Call_Name_kw (ld_glob I hg hm ?_ hdb)
  refine PySem.W.callWith_K (h₀ := X.base) I.ok.mod.kin hk (thn (ha.run pos pins s σ H _ I h) fun us s1 ⟨vs, H1, I1, r, h1⟩ => ⟨I1.kIn, ?_⟩) he hpl
  have hl : us.length = ps.length := by rw [← r.length]; exact F.len _ _ _ _ _ _ _ h1
  have b := hb s1 us I1.kIn (by rw [List.append_nil]; exact hl)
  rw [List.append_nil] at b
  have P1 := I1.pin p (List.mem_append_left _ hp)
  have hpin : PinOk X.stack H1 s1 p := ⟨P1.1, P1.2.1, fun hm => (List.mem_cons.mp (I1.stkSub p.1 hm)).elim P1.2.2.1 P1.2.2.2.1, P1.2.2.2.2⟩
  refine wpAny_call (codeAny_mono (F.run X.A X.stack s1 H1 ⟨us, []⟩ us vs Q p cls d hr hot hz hpin I1.env0 b r h1) fun r s' hq => ?_)
  cases r with
  | error e => exact False.elim hq
  | ok fl =>
    cases fl with
    | ret u => exact I1.after hq
    | next => exact False.elim hq
    | brk => exact False.elim hq
    | cont => exact False.elim hq
end
theorem pe_callE {X : Cx} {k : Nat} {f : Addr} {fd : FuncData} {ps : List Str} {spx : Addr → Value → Option Addr → Sp} {x : Str} {q pos : Pos} {e : Expr} {es : List Expr} {t : TA} {a : Addr} {oe : Obj} {cls : Value} {d : Option Addr} (F : FnP X.prog X.w X.K X.mg X.base k f fd ps spx) (hr : RoomH k X.A) (hp : (a, oe) ∈ X.pn) (hot : Hot1 X.A (a, oe)) (hz : Zc cls d oe)
    (hg : Gl X x) (hm : X.mg x = some (.ref f)) (hk : PySem.W.keepIn X.K (.ref f) = true) (hb : Binds X.K fd ps []) (ha : PA X (e :: es) t)
    (hdb : (x == ("__debug__" : Str)) = false := by decide) (he : starEach (e :: es) X.env = (false, eval e X.env) :: starEach es X.env := by rfl) (hpl : (backTo pos (starEach es X.env)).any (·.1) = false := by rfl) :
    PE X (.Call (.Name x q) (e :: es) [] pos) (tCallP spx a cls d t) := pe_callP (p := (a, oe)) F hr hp hot hz hg hm hk hb ha hdb he hpl
theorem roomH_mark {j k : Nat} {A : Around} {v : Option Value} (r : Room k A) (h : j ≤ k) : RoomH j (A.mark v) := (roomH_of (r.mono h) : RoomH j A).rec fun d u => ⟨d, u⟩
theorem _root_.L2H.RoomH.units {k : Nat} {A : Around} (r : RoomH k A) : A.units + 64 < cLine := by
  have := r.un
  omega
theorem takes0N {X : Cx} : L2N.Takes X (fun _ _ _ _ => False) := fun _ _ x => by
  obtain ⟨_, _, _, _, _, _, _, _, _, _, _, _, _, _, _, _, z⟩ := x
  exact z.elim
theorem okXN {P : Program} {w : World} {K : PySem.W.Frag} {mg : Str → Option Value} {base : Heap} {x qual : Str} {st : Stmt} {f : Addr} {fd : FuncData} {N ps : List Str} {k : Nat} {sp : Sp} (F : Fun K x qual st f fd) (S : FnScope N ps (defScope st)) (len : ∀ vs H Q E, sp vs H Q E → vs.length = ps.length)
    (hbody : ∀ (cdv : Value) (A : Around) (outer : List Env) (s : Shared) (H : Hp) (vs : List V) (Q : VK) (E : XK), Room k (A.deeper (envOfC qual (defScope st) s.heap.objs.size f cdv)) → sp vs H Q E →
      ∃ t, PSs (cxOf (L2N.CX P w) P w K mg base N qual (defScope st) f cdv A outer s H E) (defBody st) t ∧ t { nx := fun _ H' => Q .non H', rt := Q } (L2.start N vs) H) : FnOk P w K mg base (L2N.CX P w) (k + 1) f fd ps sp := by
  obtain ⟨oc, od, kV, doc, pm, an, cdv, ct, osl, rfl, lk, hcd⟩ := F.ex
  exact fn_of lk hcd S len fun A outer s H vs Q E hr hsp => hbody cdv A outer s H vs Q E hr hsp
theorem kit_own {K : PySem.W.Frag} {D C : Addr} {b : Bool} (h0 : PySem.W.subIn K (.ref D) (.ref D) = some true) (hi : PySem.W.isClsIn K C = true) (ht : PySem.W.typeIn K (.ref C) = some (.type "type")) (hs : PySem.W.subIn K (.ref D) (.ref C) = some b) : PySem.W.kitOne K (.ref D) (.ref C) = some b := by
  unfold PySem.W.isClsIn at hi
  unfold PySem.W.kitOne
  by_cases e : D = C
  · subst e
    rw [h0] at hs
    rw [if_pos (beq_self_eq_true _), hs]
  · rw [if_neg (by simp [e])]
    simp [PySem.W.kitCls, hi, ht, hs]
theorem kit_ve {K : PySem.W.Frag} {D : Addr} (h : PySem.W.subIn K (.ref D) (.type "ValueError") = some true) : PySem.W.kitOne K (.ref D) (.type "ValueError") = some true := by
  unfold PySem.W.kitOne
  rw [if_neg (by simp)]
  unfold PySem.W.kitCls
  show (if PySem.W.kitMeta "ValueError" = true then _ else _) = _
  rw [if_pos (by decide +kernel)]
  exact h
theorem exm_sub {K : PySem.W.Frag} {D C : Addr} (h1 : PySem.W.subIn K (.ref C) (.type "BaseException") = some true) (hi : PySem.W.isClsIn K C = true) (ht : PySem.W.typeIn K (.ref C) = some (.type "type")) (hs : PySem.W.subIn K (.ref D) (.ref C) = some true) : PySem.W.exmOne K (.ref D) (.ref C) = some true := by
  unfold PySem.W.isClsIn at hi
  simp [PySem.W.exmOne, PySem.W.kitCls, h1, hi, ht, hs]
end Fp

set_option Elab.async false
set_option linter.all false
set_option maxRecDepth 100000
set_option maxHeartbeats 4000000
/-! a text split by one sign. -/
namespace Fp
open PySem PyProof.Rows
def spStep (d : Nat) (st : List (List Nat) × List Nat) (c : Nat) : List (List Nat) × List Nat := if c = d then (st.1 ++ [st.2], []) else (st.1, st.2 ++ [c])
def rowsOf (st : List (List Nat) × List Nat) : List (List Nat) := st.1 ++ [st.2]
def splitL (d : Nat) (l : List Nat) : List (List Nat) := rowsOf (l.foldl (spStep d) ([], []))
def joinL (d : Nat) : List (List Nat) → List Nat
  | [] => []
  | [p] => p
  | p :: q :: r => p ++ d :: joinL d (q :: r)
theorem sp_free (d : Nat) : ∀ (p : List Nat) (a : List (List Nat)) (b : List Nat), d ∉ p → p.foldl (spStep d) (a, b) = (a, b ++ p)
  | [], a, b, _ => by rw [List.append_nil]; rfl
  | c :: r, a, b, h => by
    have hc : c ≠ d := fun z => h (by rw [z]; exact List.mem_cons_self ..)
    rw [List.foldl_cons, show spStep d (a, b) c = (a, b ++ [c]) from if_neg hc, sp_free d r a (b ++ [c]) (fun z => h (List.mem_cons_of_mem _ z)), List.append_assoc]
    rfl
theorem sp_join (d : Nat) : ∀ (ps : List (List Nat)) (a : List (List Nat)), ps ≠ [] → (∀ p ∈ ps, d ∉ p) → rowsOf ((joinL d ps).foldl (spStep d) (a, [])) = a ++ ps
  | [], _, h, _ => absurd rfl h
  | [p], a, _, h => by
    show rowsOf (p.foldl (spStep d) (a, [])) = a ++ [p]
    rw [sp_free d p a [] (h p (List.mem_cons_self ..))]
    rfl
  | p :: q :: r, a, _, h => by
    show rowsOf ((p ++ d :: joinL d (q :: r)).foldl (spStep d) (a, [])) = a ++ p :: q :: r
    rw [List.foldl_append, sp_free d p a [] (h p (List.mem_cons_self ..)), List.foldl_cons, show spStep d (a, [] ++ p) d = (a ++ [p], []) from if_pos rfl, sp_join d (q :: r) (a ++ [p]) (by simp) (fun x hx => h x (List.mem_cons_of_mem _ hx)), List.append_assoc]
    rfl
theorem split_join (d : Nat) {ps : List (List Nat)} (h0 : ps ≠ []) (h : ∀ p ∈ ps, d ∉ p) : splitL d (joinL d ps) = ps := sp_join d ps [] h0 h
theorem join_toList (d : Nat) : ∀ ps : List Str, (Str.join (sOf [d]) ps).cps.toList = joinL d (ps.map fun z => z.cps.toList)
  | [] => rfl
  | [p] => rfl
  | p :: q :: r => by
    have ih := join_toList d (q :: r)
    show (p ++ sOf [d] ++ Str.join (sOf [d]) (q :: r)).cps.toList = p.cps.toList ++ d :: joinL d ((q :: r).map fun z => z.cps.toList)
    rw [← ih]
    show ((p.cps ++ (sOf [d]).cps) ++ (Str.join (sOf [d]) (q :: r)).cps).toList = _
    simp [sOf]
/-- text.split(sign) is the splitting sign by sign -/
theorem split_is (d : Nat) (x : Str) : Txt.split x (sOf [d]) = (splitL d x.cps.toList).map sOf := by
  have h1 := StrLaws.join_split x (sOf [d])
  have h2 := StrLaws.split_free x d
  have h3 := split_pos x (sOf [d])
  have e : joinL d ((Txt.split x (sOf [d])).map fun z => z.cps.toList) = x.cps.toList := by
    rw [← join_toList, h1]
  have ne : ((Txt.split x (sOf [d])).map fun z => z.cps.toList) ≠ [] := fun z => by
    have := congrArg List.length z
    rw [List.length_map] at this
    have : (Txt.split x (sOf [d])).length = 0 := this
    omega
  have u := split_join d ne (fun p hp => by
    obtain ⟨z, hz, rfl⟩ := List.mem_map.mp hp
    exact h2 z hz)
  rw [e] at u
  rw [u, List.map_map]
  conv => lhs; rw [← List.map_id (Txt.split x (sOf [d]))]
  apply List.map_congr_left
  intro z _
  exact str_sOf z
/-- sign.join(texts) -/
theorem join_is (d : Nat) (rows : List (List Nat)) : Txt.join (sOf [d]) (rows.map sOf) = sOf (joinL d rows) := by
  show Builtin.Str.glued (sOf [d]) (rows.map sOf) = _
  rw [StrLaws.glued_eq_join]
  apply of_list
  rw [join_toList, List.map_map]
  congr 1
  conv => rhs; rw [← List.map_id rows]
  apply List.map_congr_left
  intro l _
  exact sOf_list l
end Fp

set_option Elab.async false
set_option linter.all false
set_option maxRecDepth 100000
set_option maxHeartbeats 4000000
/-! tuple(text). -/
namespace Fp
open PySem L2 PyProof.Rows
section
variable {X : Cx}
theorem call_tuple_strW (hc : X.calm = true) : CallR X (.type "tuple") (fun xs H Q => ∃ z : Str, xs = [.str z] ∧ z.length ≤ 100000 ∧ rNewW H (.tup (cells z.cps.toList)) Q) := by
  intro pins s σ H xs us Q I r h
  obtain ⟨z, rfl, hz, q⟩ := h
  obtain ⟨u, rfl, t, rfl⟩ := vals1 r
  have hl : z.cps.size ≤ sizeLine := sz hz
  refine PySem.call_tuple_str (hsz := hl) (I.ok.hd hc) z t fun h' tk acc hk hacc => ?_
  have r' : Vals (cells z.cps.toList) acc.toList := vals_signs (by have := hacc.1; simpa using this) fun j v hj => by
    obtain ⟨c, u, e, rfl⟩ := hacc.2 j v (by simpa using hj)
    exact ⟨c, u, by simpa using e, rfl⟩
  have I1 : Inv X pins σ H { s with heap := h', toks := tk } := I.kept (t' := tk) hk
  have hf : H h'.objs.size = none := I1.hok.fresh (Nat.le_refl _)
  refine ⟨.ref h'.objs.size, upd H h'.objs.size (.tup (cells z.cps.toList)), I1.laid (t' := tk) (fun b u e => Heap.get?_push_of_some _ e) (Nat.le_refl _) ?_, rfl, q _ _ hf (same_new hf) upd_same⟩
  exact ⟨by rw [cells_len, Array.length_toList]; exact hl, acc.toList, r', ⟨_, Heap.get?_push_size _ rfl, rfl, 0, by simp⟩⟩
end
end Fp

set_option Elab.async false
set_option linter.all false
set_option maxRecDepth 100000
set_option maxHeartbeats 4000000
namespace K02
open PySem PySem.Spec PyProof.Rows L2 Fp L2H
def topS (i : Nat) : Stmt := PySem.Challenge.pw_farpage_k02_pages_written.main.body.getD i (.Pass ⟨0, 0, 0, 0⟩)
abbrev s_is_row : Stmt := topS 17
abbrev N_is_row : List Str := ["thing", "cell"]
abbrev P_is_row : List Str := ["thing"]
theorem sc_is_row : FnScope N_is_row P_is_row (defScope s_is_row) := ⟨rfl, rfl, rfl, by decide +kernel, rfl, by decide +kernel, by decide +kernel⟩
abbrev s_is_page : Stmt := topS 18
abbrev N_is_page : List Str := ["thing", "row"]
abbrev P_is_page : List Str := ["thing"]
theorem sc_is_page : FnScope N_is_page P_is_page (defScope s_is_page) := ⟨rfl, rfl, rfl, by decide +kernel, rfl, by decide +kernel, by decide +kernel⟩
abbrev s_show_page : Stmt := topS 19
abbrev N_show_page : List Str := ["page"]
abbrev P_show_page : List Str := ["page"]
theorem sc_show_page : FnScope N_show_page P_show_page (defScope s_show_page) := ⟨rfl, rfl, rfl, by decide +kernel, rfl, by decide +kernel, by decide +kernel⟩
abbrev s_read_page : Stmt := topS 20
abbrev N_read_page : List Str := ["thing", "page"]
abbrev P_read_page : List Str := ["thing"]
theorem sc_read_page : FnScope N_read_page P_read_page (defScope s_read_page) := ⟨rfl, rfl, rfl, by decide +kernel, rfl, by decide +kernel, by decide +kernel⟩
abbrev s_bag : Stmt := topS 22
abbrev N_bag : List Str := ["_law_script", "_law_at", "_law_cell", "_law_great"]
abbrev P_bag : List Str := ["_law_script", "_law_at"]
theorem sc_bag : FnScope N_bag P_bag (defScope s_bag) := ⟨rfl, rfl, rfl, by decide +kernel, rfl, by decide +kernel, by decide +kernel⟩
abbrev s_draw : Stmt := topS 23
abbrev N_draw : List Str := ["_law_bag_here", "_law_many", "_law_digit"]
abbrev P_draw : List Str := ["_law_bag_here", "_law_many"]
theorem sc_draw : FnScope N_draw P_draw (defScope s_draw) := ⟨rfl, rfl, rfl, by decide +kernel, rfl, by decide +kernel, by decide +kernel⟩
abbrev s_row : Stmt := topS 24
abbrev N_row : List Str := ["_law_bag_here", "_law_breadth", "_law_above", "_law_way", "_law_row_here", "_law_most", "_law_colour", "_law_left", "_law_place", "_law_turn"]
abbrev P_row : List Str := ["_law_bag_here", "_law_breadth", "_law_above"]
theorem sc_row : FnScope N_row P_row (defScope s_row) := ⟨rfl, rfl, rfl, by decide +kernel, rfl, by decide +kernel, by decide +kernel⟩
abbrev s_page : Stmt := topS 25
abbrev N_page : List Str := ["_law_bag_here", "_law_most_cells", "_law_most_rows", "_law_breadth", "_law_many", "_law_rows", "_law_k"]
abbrev P_page : List Str := ["_law_bag_here", "_law_most_cells", "_law_most_rows"]
theorem sc_page : FnScope N_page P_page (defScope s_page) := ⟨rfl, rfl, rfl, by decide +kernel, rfl, by decide +kernel, by decide +kernel⟩
abbrev s_signs : Stmt := topS 26
abbrev N_signs : List Str := []
abbrev P_signs : List Str := []
theorem sc_signs : FnScope N_signs P_signs (defScope s_signs) := ⟨rfl, rfl, rfl, by decide +kernel, rfl, by decide +kernel, by decide +kernel⟩
abbrev s_is_row_l : Stmt := topS 27
abbrev N_is_row_l : List Str := ["_law_thing", "_law_sign"]
abbrev P_is_row_l : List Str := ["_law_thing"]
theorem sc_is_row_l : FnScope N_is_row_l P_is_row_l (defScope s_is_row_l) := ⟨rfl, rfl, rfl, by decide +kernel, rfl, by decide +kernel, by decide +kernel⟩
abbrev s_is_page_l : Stmt := topS 28
abbrev N_is_page_l : List Str := ["_law_thing", "_law_row_here"]
abbrev P_is_page_l : List Str := ["_law_thing"]
theorem sc_is_page_l : FnScope N_is_page_l P_is_page_l (defScope s_is_page_l) := ⟨rfl, rfl, rfl, by decide +kernel, rfl, by decide +kernel, by decide +kernel⟩
abbrev s_odd : Stmt := topS 29
abbrev N_odd : List Str := ["_law_bag_here", "_law_some"]
abbrev P_odd : List Str := ["_law_bag_here"]
theorem sc_odd : FnScope N_odd P_odd (defScope s_odd) := ⟨rfl, rfl, rfl, by decide +kernel, rfl, by decide +kernel, by decide +kernel⟩
abbrev s_only : Stmt := topS 30
abbrev N_only : List Str := ["_law_e", "_law_due", "_law_kinds", "_law_k"]
abbrev P_only : List Str := ["_law_e", "_law_due"]
theorem sc_only : FnScope N_only P_only (defScope s_only) := ⟨rfl, rfl, rfl, by decide +kernel, rfl, by decide +kernel, by decide +kernel⟩
abbrev s_shown : Stmt := topS 31
abbrev N_shown : List Str := ["_law_thing", "_law_rows", "_law_sign"]
abbrev P_shown : List Str := ["_law_thing"]
theorem sc_shown : FnScope N_shown P_shown (defScope s_shown) := ⟨rfl, rfl, rfl, by decide +kernel, rfl, by decide +kernel, by decide +kernel⟩
abbrev s_lread : Stmt := topS 32
abbrev N_lread : List Str := ["_law_thing", "_law_due", "_law_found", "_law_e"]
abbrev P_lread : List Str := ["_law_thing"]
theorem sc_lread : FnScope N_lread P_lread (defScope s_lread) := ⟨rfl, rfl, rfl, by decide +kernel, rfl, by decide +kernel, by decide +kernel⟩
abbrev s_things : Stmt := topS 33
abbrev N_things : List Str := ["_law_bag_here", "_law_text", "_law_signs_here", "_law_place", "_law_sign", "_law_found"]
abbrev P_things : List Str := ["_law_bag_here", "_law_text"]
theorem sc_things : FnScope N_things P_things (defScope s_things) := ⟨rfl, rfl, rfl, by decide +kernel, rfl, by decide +kernel, by decide +kernel⟩
abbrev s_law : Stmt := topS 34
abbrev N_law : List Str := ["_law_script", "_law_k", "_law_bag_here", "_law_page_here", "_law_text", "_law_row_here", "_law_thing"]
abbrev P_law : List Str := ["_law_script"]
theorem sc_law : FnScope N_law P_law (defScope s_law) := ⟨rfl, rfl, rfl, by decide +kernel, rfl, by decide +kernel, by decide +kernel⟩
structure Ad where
  a_is_row : Addr
  d_is_row : FuncData
  a_is_page : Addr
  d_is_page : FuncData
  a_show_page : Addr
  d_show_page : FuncData
  a_read_page : Addr
  d_read_page : FuncData
  a_bag : Addr
  d_bag : FuncData
  a_draw : Addr
  d_draw : FuncData
  a_row : Addr
  d_row : FuncData
  a_page : Addr
  d_page : FuncData
  a_signs : Addr
  d_signs : FuncData
  a_is_row_l : Addr
  d_is_row_l : FuncData
  a_is_page_l : Addr
  d_is_page_l : FuncData
  a_odd : Addr
  d_odd : FuncData
  a_only : Addr
  d_only : FuncData
  a_shown : Addr
  d_shown : FuncData
  a_lread : Addr
  d_lread : FuncData
  a_things : Addr
  d_things : FuncData
  a_law : Addr
  d_law : FuncData
  t_DARK : Tok
  t_LEAST_BREADTH : Tok
  t_LIGHT : Tok
  t_MOST_BREADTH : Tok
  t_MOST_ROWS : Tok
  x_FarError : Addr
  x_NoPage : Addr
  x_NoWords : Addr
  x_NoTelling : Addr
  x_NoFrame : Addr
  x_NoPiece : Addr
  x_NoName : Addr
  x_NoEnds : Addr
  x_NoCall : Addr
  x_NoSaying : Addr
structure Txt (w : World) (K : PySem.W.Frag) (mg : Str → Option Value) (base : Heap) (A : Ad) : Prop where
  F_is_row : Fun K "is_row" "is_row" s_is_row A.a_is_row A.d_is_row
  b_is_row : Binds K A.d_is_row P_is_row []
  g_is_row : mg "is_row" = some (.ref A.a_is_row)
  F_is_page : Fun K "is_page" "is_page" s_is_page A.a_is_page A.d_is_page
  b_is_page : Binds K A.d_is_page P_is_page []
  g_is_page : mg "is_page" = some (.ref A.a_is_page)
  F_show_page : Fun K "show_page" "show_page" s_show_page A.a_show_page A.d_show_page
  b_show_page : Binds K A.d_show_page P_show_page []
  g_show_page : mg "show_page" = some (.ref A.a_show_page)
  F_read_page : Fun K "read_page" "read_page" s_read_page A.a_read_page A.d_read_page
  b_read_page : Binds K A.d_read_page P_read_page []
  g_read_page : mg "read_page" = some (.ref A.a_read_page)
  F_bag : Fun K "_law_bag" "_law_bag" s_bag A.a_bag A.d_bag
  b_bag : Binds K A.d_bag P_bag []
  g_bag : mg "_law_bag" = some (.ref A.a_bag)
  F_draw : Fun K "_law_draw" "_law_draw" s_draw A.a_draw A.d_draw
  b_draw : Binds K A.d_draw P_draw []
  g_draw : mg "_law_draw" = some (.ref A.a_draw)
  F_row : Fun K "_law_row" "_law_row" s_row A.a_row A.d_row
  b_row : Binds K A.d_row P_row []
  g_row : mg "_law_row" = some (.ref A.a_row)
  F_page : Fun K "_law_page" "_law_page" s_page A.a_page A.d_page
  b_page : Binds K A.d_page P_page []
  g_page : mg "_law_page" = some (.ref A.a_page)
  F_signs : Fun K "_law_signs" "_law_signs" s_signs A.a_signs A.d_signs
  b_signs : Binds K A.d_signs P_signs []
  g_signs : mg "_law_signs" = some (.ref A.a_signs)
  F_is_row_l : Fun K "_law_is_row" "_law_is_row" s_is_row_l A.a_is_row_l A.d_is_row_l
  b_is_row_l : Binds K A.d_is_row_l P_is_row_l []
  g_is_row_l : mg "_law_is_row" = some (.ref A.a_is_row_l)
  F_is_page_l : Fun K "_law_is_page" "_law_is_page" s_is_page_l A.a_is_page_l A.d_is_page_l
  b_is_page_l : Binds K A.d_is_page_l P_is_page_l []
  g_is_page_l : mg "_law_is_page" = some (.ref A.a_is_page_l)
  F_odd : Fun K "_law_odd" "_law_odd" s_odd A.a_odd A.d_odd
  b_odd : Binds K A.d_odd P_odd []
  g_odd : mg "_law_odd" = some (.ref A.a_odd)
  F_only : Fun K "_law_only" "_law_only" s_only A.a_only A.d_only
  b_only : Binds K A.d_only P_only []
  g_only : mg "_law_only" = some (.ref A.a_only)
  F_shown : Fun K "_law_page_shown" "_law_page_shown" s_shown A.a_shown A.d_shown
  b_shown : Binds K A.d_shown P_shown []
  g_shown : mg "_law_page_shown" = some (.ref A.a_shown)
  F_lread : Fun K "_law_read" "_law_read" s_lread A.a_lread A.d_lread
  b_lread : Binds K A.d_lread P_lread []
  g_lread : mg "_law_read" = some (.ref A.a_lread)
  F_things : Fun K "_law_things" "_law_things" s_things A.a_things A.d_things
  b_things : Binds K A.d_things P_things []
  g_things : mg "_law_things" = some (.ref A.a_things)
  F_law : Fun K "law" "law" s_law A.a_law A.d_law
  g_law : mg "law" = some (.ref A.a_law)
  xg_FarError : mg "FarError" = some (.ref A.x_FarError)
  ki_FarError : PySem.W.kitOne K (.ref A.x_NoPage) (.ref A.x_FarError) = some true
  xg_NoPage : mg "NoPage" = some (.ref A.x_NoPage)
  ki_NoPage : PySem.W.kitOne K (.ref A.x_NoPage) (.ref A.x_NoPage) = some true
  xg_NoWords : mg "NoWords" = some (.ref A.x_NoWords)
  ki_NoWords : PySem.W.kitOne K (.ref A.x_NoPage) (.ref A.x_NoWords) = some false
  xg_NoTelling : mg "NoTelling" = some (.ref A.x_NoTelling)
  ki_NoTelling : PySem.W.kitOne K (.ref A.x_NoPage) (.ref A.x_NoTelling) = some false
  xg_NoFrame : mg "NoFrame" = some (.ref A.x_NoFrame)
  ki_NoFrame : PySem.W.kitOne K (.ref A.x_NoPage) (.ref A.x_NoFrame) = some false
  xg_NoPiece : mg "NoPiece" = some (.ref A.x_NoPiece)
  ki_NoPiece : PySem.W.kitOne K (.ref A.x_NoPage) (.ref A.x_NoPiece) = some false
  xg_NoName : mg "NoName" = some (.ref A.x_NoName)
  ki_NoName : PySem.W.kitOne K (.ref A.x_NoPage) (.ref A.x_NoName) = some false
  xg_NoEnds : mg "NoEnds" = some (.ref A.x_NoEnds)
  ki_NoEnds : PySem.W.kitOne K (.ref A.x_NoPage) (.ref A.x_NoEnds) = some false
  xg_NoCall : mg "NoCall" = some (.ref A.x_NoCall)
  ki_NoCall : PySem.W.kitOne K (.ref A.x_NoPage) (.ref A.x_NoCall) = some false
  xg_NoSaying : mg "NoSaying" = some (.ref A.x_NoSaying)
  ki_NoSaying : PySem.W.kitOne K (.ref A.x_NoPage) (.ref A.x_NoSaying) = some false
  xq_NoPage : PySem.W.excIn K A.x_NoPage veB "ValueError.__new__" = true
  xk_NoPage : PySem.W.keepIn K (.ref A.x_NoPage) = true
  xs_NoPage : PySem.W.subIn K (.ref A.x_NoPage) (.type "BaseException") = some true
  xt_NoPage : PySem.W.typeIn K (.ref A.x_NoPage) = some (.type "type")
  xe : ExcC K A.x_NoPage
  kv : PySem.W.kitOne K (.ref A.x_NoPage) (.type "ValueError") = some true
  xm_FarError : PySem.W.exmOne K (.ref A.x_NoPage) (.ref A.x_FarError) = some true
  z_ValueError : mg "ValueError" = none
  z_abs : mg "abs" = none
  z_all : mg "all" = none
  z_isinstance : mg "isinstance" = none
  z_len : mg "len" = none
  z_list : mg "list" = none
  z_max : mg "max" = none
  z_min : mg "min" = none
  z_range : mg "range" = none
  z_str : mg "str" = none
  z_tuple : mg "tuple" = none
  c_DARK : mg "DARK" = some (.str "#" A.t_DARK)
  c_LEAST_BREADTH : mg "LEAST_BREADTH" = some (.int (8) A.t_LEAST_BREADTH)
  c_LIGHT : mg "LIGHT" = some (.str "." A.t_LIGHT)
  c_MOST_BREADTH : mg "MOST_BREADTH" = some (.int (64) A.t_MOST_BREADTH)
  c_MOST_ROWS : mg "MOST_ROWS" = some (.int (24) A.t_MOST_ROWS)
section
variable {P : Program} {w : World} {K : PySem.W.Frag} {mg : Str → Option Value} {base : Heap}
def spBag (K : PySem.W.Frag) : Sp := fun vs H Q _ => ∃ (a : Addr) (ns : List Int) (k : Int), vs = [.ref a, .int k] ∧ SqL K H a (ns.map V.int) ∧ 0 ≤ k ∧ k ≤ 1000 ∧
  ∀ p g s, H p = none → 0 ≤ g → 0 ≤ s → s < 1000000000000 → Q (.ref p) (upd H p (.lst [.int g, .int s]))
theorem ok_bag {A : Ad} (T : Txt w K mg base A) : FnOk P w K mg base CX0 1 A.a_bag A.d_bag P_bag (spBag K) := by
  refine T.F_bag.ok sc_bag (fun vs H Q E h => ?_) (fun cdv Ar outer s H vs Q E hr h => ?_)
  · obtain ⟨a, ns, k, rfl, _⟩ := h
    rfl
  · obtain ⟨a, ns, k, rfl, hS, k0, k1, q⟩ := h
    refine ⟨_, (pss_cons (ps_set (i := 2) sc_bag.nd rfl (Or.inl rfl) pe_int)
      (pss_cons (ps_if (pt_cmpR op_lt (pv 1) (pe_callB (r := fun xs H Q => ∃ p ys, xs = [.ref p] ∧ (SqL K H p ys ∨ SqT K H p ys) ∧ Q (.int ys.length) H) call_len_seq (by rfl) T.z_len PySem.boot_len (pa_cons (pv 0) pa_nil)) (nomark _))
      (pss_one (ps_set (i := 2) sc_bag.nd rfl (Or.inl rfl) (pe_ix (r := rIxL K) ix_list (pv 0) (pv 1) (fun _ _ => rfl)))) pss_nil)
      (pss_cons (ps_set (i := 3) sc_bag.nd rfl (Or.inl rfl) pe_int)
      (pss_cons (ps_if (pt_cmpR op_ge (pe_callB call_abs (by rfl) T.z_abs (by decide +kernel) (pa_cons (pv 2) pa_nil)) (pe_op op_pow pe_int pe_int) (nomark _))
      (pss_one (ps_set (i := 3) sc_bag.nd rfl (Or.inl rfl) (pe_callB call_abs (by rfl) T.z_abs (by decide +kernel) (pa_cons (pv 2) pa_nil)))) pss_nil)
      (pss_one (ps_ret (pe_lst (pa_cons (pv 3) (pa_cons (pe_op op_add (pe_op op_add (pe_op op_mul (pe_op op_mod (pv 2) pe_int) pe_int) (pe_op op_mul pe_int (pv 1))) pe_int) pa_nil))))))))), ?_⟩
    have fin : ∀ (c g : Int), 0 ≤ g → tSeq (tIfS (tTest (tOp (rI0 fun i j => .bl (decide (j ≤ i))) (tCB (fun xs H Q => ∃ i, xs = [.int i] ∧ Q (.int (if i < 0 then -i else i)) H) (tCons (tVar 2) tNil)) (tOp (rI CPow fun i j => .int (i ^ j.toNat)) (tC (.int 10)) (tC (.int 18))))) (tAsg (tCB (fun xs H Q => ∃ i, xs = [.int i] ∧ Q (.int (if i < 0 then -i else i)) H) (tCons (tVar 2) tNil)) (gName 3)) tNext)
        (tRet (tLst (tCons (tVar 3) (tCons (tOp (rI0 fun i j => .int (i + j)) (tOp (rI0 fun i j => .int (i + j)) (tOp (rI CMul fun i j => .int (i * j)) (tOp (rI (fun _ j => 0 < j) fun i j => .int (i % j)) (tVar 2) (tC (.int 1000000007))) (tC (.int 7))) (tOp (rI CMul fun i j => .int (i * j)) (tC (.int 1013)) (tVar 1))) (tC (.int 5))) tNil)))) { nx := fun _ H' => Q .non H', rt := Q } [some (.ref a), some (.int k), some (.int c), some (.int g)] H := by
      intro c g g0
      have fin2 : ∀ (g : Int), 0 ≤ g → tRet (tLst (tCons (tVar 3) (tCons (tOp (rI0 fun i j => .int (i + j)) (tOp (rI0 fun i j => .int (i + j)) (tOp (rI CMul fun i j => .int (i * j)) (tOp (rI (fun _ j => 0 < j) fun i j => .int (i % j)) (tVar 2) (tC (.int 1000000007))) (tC (.int 7))) (tOp (rI CMul fun i j => .int (i * j)) (tC (.int 1013)) (tVar 1))) (tC (.int 5))) tNil))) { nx := fun _ H' => Q .non H', rt := Q } [some (.ref a), some (.int k), some (.int c), some (.int g)] H := by
        intro g g0
        have m0 := Int.emod_nonneg c (show (1000000007 : Int) ≠ 0 by decide)
        have m1 := Int.emod_lt_of_pos c (show (0 : Int) < 1000000007 by decide)
        refine ⟨_, rfl, _, rfl, _, _, rfl, rfl, (by show (0 : Int) < 1000000007; decide), _, _, rfl, rfl, .inr ⟨by decide, by decide⟩, _, rfl, _, _, rfl, rfl, .inl ⟨by decide, by decide⟩, _, _, rfl, rfl, _, _, rfl, rfl, (by show 2 ≤ sizeLine; decide), fun p hp => ?_⟩
        exact q p g _ hp g0 (by omega) (by omega)
      refine ⟨_, rfl, _, rfl, _, _, rfl, rfl, ⟨by decide, by decide, by decide⟩, _, _, rfl, rfl, _, rfl, ite2 (fun e => ?_) (fun e => ?_)⟩
      · refine ⟨_, rfl, _, rfl, fin2 _ ?_⟩
        split <;> omega
      · exact fin2 g g0
    refine ⟨_, rfl, _, rfl, _, _, rfl, .inl hS, _, _, rfl, rfl, _, rfl, ite2 (fun e => ?_) (fun e => ?_)⟩
    · have lt : k < ((ns.map V.int).length : Int) := of_decide_eq_true e
      obtain ⟨j, rfl⟩ := Int.eq_ofNat_of_zero_le k0
      have hj : j < ns.length := by
        rw [List.length_map] at lt
        omega
      have g : (ns.map V.int)[j]? = some (.int ns[j]) := by
        rw [List.getElem?_map, List.getElem?_eq_getElem hj]
        rfl
      refine ⟨_, rfl, _, rfl, _, _, _, _, rfl, rfl, hS, atI_nat g, ?_⟩
      exact fin _ 0 (Int.le_refl _)
    · exact fin 0 0 (Int.le_refl _)
def spDraw : Sp := fun vs H Q _ => ∃ (b : Addr) (m : Int), vs = [.ref b, .int m] ∧ BagAt H b ∧ 0 < m ∧ m < 1000000 ∧
  ∀ (d : Int) (H' : Hp), 0 ≤ d → d < m → Bx b H H' → Q (.int d) H'
theorem ok_draw {A : Ad} (T : Txt w K mg base A) : FnOk P w K mg base CX0 1 A.a_draw A.d_draw P_draw spDraw := by
  refine T.F_draw.ok sc_draw (fun vs H Q E h => ?_) (fun cdv Ar outer s H vs Q E hr h => ?_)
  · obtain ⟨b, m, rfl, _⟩ := h
    rfl
  · obtain ⟨b, m, rfl, ⟨g, s, hb, g0, s0, s1⟩, m0, m1, q⟩ := h
    refine ⟨_, (pss_cons (ps_if (pt_cmpR op_gt (pe_ix (r := rIxL K) ix_list (pv 0) pe_int (fun _ _ => rfl)) pe_int (nomark _))
      (pss_cons (ps_set (i := 2) sc_draw.nd rfl (Or.inl rfl) (pe_op op_mod (pe_ix (r := rIxL K) ix_list (pv 0) pe_int (fun _ _ => rfl)) (pv 1)))
      (pss_cons (ps_asg (pe_op op_fdiv (pe_ix (r := rIxL K) ix_list (pv 0) pe_int (fun _ _ => rfl)) (pv 1)) (pg_sub (pv 0) pe_int set_list))
      (pss_one (ps_ret (pv 2))))) pss_nil)
      (pss_cons (ps_asg (pe_op op_mod (pe_op op_add (pe_op op_mul (pe_ix (r := rIxL K) ix_list (pv 0) pe_int (fun _ _ => rfl)) pe_int) pe_int) pe_int) (pg_sub (pv 0) pe_int set_list))
      (pss_one (ps_ret (pe_op op_mod (pe_op op_mod (pe_op op_pow (pe_op op_fdiv (pe_ix (r := rIxL K) ix_list (pv 0) pe_int (fun _ _ => rfl)) pe_int) pe_int) pe_int) (pv 1)))))), ?_⟩
    refine ⟨_, rfl, _, _, _, _, rfl, rfl, SqL.of hb, atI_nat (j := 0) rfl, _, _, rfl, rfl, _, rfl, ite2 (fun e => ?_) (fun e => ?_)⟩
    · refine ⟨_, rfl, _, _, _, _, rfl, rfl, SqL.of hb, atI_nat (j := 0) rfl, _, rfl, _, _, rfl, rfl, m0, ?_⟩
      refine ⟨_, rfl, _, _, _, _, rfl, rfl, SqL.of hb, atI_nat (j := 0) rfl, _, rfl, _, _, rfl, rfl, ⟨m0, by omega⟩, _, rfl, _, _, _, _, rfl, rfl, hb, Evl.ixN_nat (j := 0) (by show 0 < 2; decide), ?_⟩
      refine ⟨_, rfl, ?_⟩
      exact q _ _ (Int.emod_nonneg _ (by omega)) (Int.emod_lt_of_pos _ m0) (Bx.drawn (Int.ediv_nonneg g0 (by omega)) s0 s1)
    · have t0 := Int.emod_nonneg (s * 69621 + 1234567) (show (2147483647 : Int) ≠ 0 by decide)
      have t1 := Int.emod_lt_of_pos (s * 69621 + 1234567) (show (0 : Int) < 2147483647 by decide)
      refine ⟨_, rfl, _, _, _, _, rfl, rfl, SqL.of hb, atI_nat (j := 1) rfl, _, _, rfl, rfl, .inr ⟨by decide, by decide⟩, _, _, rfl, rfl, _, _, rfl, rfl, (by show (0 : Int) < 2147483647; decide), _, rfl, _, _, _, _, rfl, rfl, hb, Evl.ixN_nat (j := 1) (by show 1 < 2; decide), ?_⟩
      refine ⟨_, rfl, _, _, _, _, rfl, rfl, SqL.of upd_same, atI_nat (j := 1) rfl, _, _, rfl, rfl, ⟨by decide, by decide⟩, _, _, rfl, rfl, ⟨by decide, by decide, ?_⟩, _, _, rfl, rfl, (by show (0 : Int) < 998244353; decide), _, rfl, _, _, rfl, rfl, m0, ?_⟩
      · omega
      · exact q _ _ (Int.emod_nonneg _ (by omega)) (Int.emod_lt_of_pos _ m0) (Bx.drawn g0 t0 (by omega))

/-! ### a row is drawn -/
def RM (b : Addr) (m : Nat) (up : List Nat) (way : Int) (H : Hp) : L2.St → Hp → Prop := fun σ H' => ∃ (p : Addr) (l : List Nat) (y5 y6 y7 y8 y9 : Option V), σ = [some (.ref b), some (.int (m : Int)), some (.str (sOf up)), some (.int way), some (.ref p), y5, y6, y7, y8, y9] ∧ H' p = some (.lst (cells l)) ∧ H p = none ∧ l.length = m ∧ Row l ∧ Bx b H H'
def spRow : Sp := fun vs H Q _ => ∃ (b : Addr) (m : Nat) (up : List Nat) (x : Int), vs = [.ref b, .int x, .str (sOf up)] ∧ x = m ∧ BagAt H b ∧ 1 ≤ m ∧ m ≤ 1000 ∧ up.length = m ∧ Row up ∧ ∀ l H', l.length = m → Row l → Bx b H H' → Q (.str (sOf l)) H'
theorem ok_row {A : Ad} (T : Txt w K mg base A) : FnOk P w K mg base CX0 2 A.a_row A.d_row P_row spRow := by
  have G_draw := ok_draw (P := P) (w := w) (base := base) T
  refine T.F_row.ok sc_row (fun vs H Q E h => ?_) (fun cdv Ar outer s H vs Q E hr h => ?_)
  · obtain ⟨b, m, up, x, rfl, _⟩ := h
    rfl
  · obtain ⟨b, m, up, _, rfl, rfl, hb, m0, m1, lu, ru, q⟩ := h
    refine ⟨_, (pss_cons (ps_set (i := 3) sc_row.nd rfl (Or.inl rfl) (pe_call G_draw (hr.mono (by decide)) (by rfl) T.g_draw T.F_draw.kp T.b_draw .nil pass0 (pa_cons (pv 0) (pa_cons pe_int pa_nil))))
      (pss_cons (ps_set (i := 4) sc_row.nd rfl (Or.inl rfl) (pe_op op_rep (pe_lst (pa_cons (pe_ix ix_str pe_str (pe_call G_draw (hr.mono (by decide)) (by rfl) T.g_draw T.F_draw.kp T.b_draw .nil pass0 (pa_cons (pv 0) (pa_cons pe_int pa_nil))) (fun _ _ => rfl)) pa_nil)) (pv 1)))
      (Evl.pss_cut (ps_if (pt_cmpR op_eq (pv 3) pe_int (nomark _))
      (pss_one (ps_setLc (i := 4) (own := [("_law_place", 8)]) (g := gName 8) (tt := tYes) (by rfl) sc_row.nd rfl rfl (sw_true rfl rfl rfl (by decide +kernel)) (pi_range1 (by rfl) T.z_range (pa_cons (pv 1) pa_nil)) (blkOk_by (own := [("_law_place", 8)]) (N := N_row) (sc := defScope s_row) (by decide +kernel)) (fun _ _ _ _ _ => pg_name (i := 8) sc_row.nd rfl (Or.inl rfl)) (fun _ _ _ _ _ => pts_nil) (fun s5 H5 C5 cl5 fp5 => (pe_ix ix_str pe_str (pe_call G_draw (hr.mono (by decide)) (by rfl) T.g_draw T.F_draw.kp T.b_draw .nil pass0 (pa_cons (pv 0) (pa_cons pe_int pa_nil))) (fun _ _ => rfl))))) pss_nil)
      (Evl.pss_cut (ps_if (pt_cmpR op_eq (pv 3) pe_int (nomark _))
      (pss_cons (ps_set (i := 5) sc_row.nd rfl (Or.inl rfl) (pe_op op_add pe_int (pe_call G_draw (hr.mono (by decide)) (by rfl) T.g_draw T.F_draw.kp T.b_draw .nil pass0 (pa_cons (pv 0) (pa_cons (pv 1) pa_nil)))))
      (pss_cons (ps_set (i := 6) sc_row.nd rfl (Or.inl rfl) (pe_call G_draw (hr.mono (by decide)) (by rfl) T.g_draw T.F_draw.kp T.b_draw .nil pass0 (pa_cons (pv 0) (pa_cons pe_int pa_nil))))
      (pss_cons (ps_set (i := 7) sc_row.nd rfl (Or.inl rfl) pe_int)
      (pss_one (ps_for PassesOwn.never rfl (pi_range1 (by rfl) T.z_range (pa_cons (pv 1) pa_nil)) (pg_name (i := 8) sc_row.nd rfl (Or.inl rfl))
      (Evl.pss_cut (ps_if (pt_cmpR op_eq (pv 7) pe_int (nomark _))
      (pss_cons (ps_set (i := 6) sc_row.nd rfl (Or.inl rfl) (pe_op op_sub pe_int (pv 6)))
      (pss_one (ps_set (i := 7) sc_row.nd rfl (Or.inl rfl) (pe_op op_add pe_int (pe_call G_draw (hr.mono (by decide)) (by rfl) T.g_draw T.F_draw.kp T.b_draw .nil pass0 (pa_cons (pv 0) (pa_cons (pv 5) pa_nil))))))) pss_nil)
      (pss_cons (ps_asg (pe_ix ix_str pe_str (pv 6) (fun _ _ => rfl)) (pg_sub (pv 4) (pv 8) set_list))
      (pss_one (ps_set (i := 7) sc_row.nd rfl (Or.inl rfl) (pe_op op_sub (pv 7) pe_int)))))))))) pss_nil)
      (Evl.pss_cut (ps_if (pt_cmpR op_eq (pv 3) pe_int (nomark _))
      (pss_cons (ps_set (i := 4) sc_row.nd rfl (Or.inl rfl) (pe_callTy (call_list_str rfl) (by rfl) T.z_list (by decide +kernel) (pa_cons (pv 2) pa_nil)))
      (pss_one (ps_for PassesOwn.never rfl (pi_range1 (by rfl) T.z_range (pa_cons pe_int pa_nil)) (pg_name (i := 9) sc_row.nd rfl (Or.inl rfl))
      (pss_one (ps_asg (pe_ix ix_str pe_str (pe_call G_draw (hr.mono (by decide)) (by rfl) T.g_draw T.F_draw.kp T.b_draw .nil pass0 (pa_cons (pv 0) (pa_cons pe_int pa_nil))) (fun _ _ => rfl)) (pg_sub (pv 4) (pe_call G_draw (hr.mono (by decide)) (by rfl) T.g_draw T.F_draw.kp T.b_draw .nil pass0 (pa_cons (pv 0) (pa_cons (pv 1) pa_nil))) set_list)))))) pss_nil)
      (pss_one (ps_ret (pe_join pe_str (pv 4))))))))), ?_⟩
    -- way, row_here
    refine ⟨_, rfl, b, 4, rfl, hb, by decide, by decide, fun way H1 w0 w1 bx1 => ?_⟩
    refine ⟨_, rfl, b, 2, rfl, bx1.1, by decide, by decide, fun d H2 d0 d1 bx2 => ⟨_, _, _, rfl, rfl, two_len, cell_at d0 d1, (by show 1 ≤ sizeLine; decide), fun p1 hp1 => ⟨_, rfl, _, _, _, rfl, rfl, upd_same, by omega, by omega, ?_, fun p hp => ?_⟩⟩⟩
    · show 1 * (m : Int).toNat ≤ sizeLine
      exact sz (by omega)
    have bx3 : Bx b H (upd H2 p1 (.lst [.str ⟨#[cellN d]⟩])) := (bx1.trans bx2).same (same_new hp1)
    have R0 : RM b m up way H [some (.ref b), some (.int (m : Int)), some (.str (sOf up)), some (.int way), some (.ref p), none, none, none, none, none] (upd (upd H2 p1 (.lst [.str ⟨#[cellN d]⟩])) p (.lst (List.replicate (m : Int).toNat [V.str ⟨#[cellN d]⟩]).flatten)) := by
      refine ⟨p, List.replicate m (cellN d), none, none, none, none, none, rfl, ?_, bx3.free hp, List.length_replicate, Row.rep (cellN_cell d), bx3.same (same_new hp)⟩
      rw [upd_same]
      exact congrArg (fun z => some (HO.lst z)) (rep_one m (cellN d))
    refine ⟨RM b m up way H, ?_, ?_⟩
    · -- way 0
      refine ⟨_, rfl, rfl, _, rfl, ite2 (fun e => ?_) (fun e => R0)⟩
      obtain ⟨_, _, _, _, _, _, _, _, _, _, _, _, bx4⟩ := R0
      refine ⟨_, rfl, _, rfl, by omega, by omega, fun D hD => lc_range (lo := 0) (n := m) (fun i H' => ∃ l, H' D = some (.lst (cells l)) ∧ l.length = i ∧ Row l ∧ Bx b H H') ⟨[], upd_same, rfl, Row.nil, bx4.same (same_new hD)⟩ ?_ ?_⟩
      · rintro i H' hi ⟨l, hl, ll, rl, bx5⟩
        have nD : D ≠ b := BagAt.ne bx4.1 hD
        have fD : H D = none := bx4.free hD
        refine ⟨rfl, _, rfl, b, 2, rfl, bx5.1, by decide, by decide, fun d2 H5 e0 e1 bx6 => ⟨_, _, _, rfl, rfl, two_len, cell_at e0 e1, _, bx6.2 _ _ nD hl, ?_, l ++ [cellN d2], ?_, ?_, rl.app (cellN_cell d2), (bx5.trans bx6).mut fD nD⟩⟩
        · rw [cells_len]
          exact szl (by omega)
        · rw [upd_same]
          exact congrArg (fun z => some (HO.lst z)) (cells_app l (cellN d2))
        · rw [List.length_append, ll]
          rfl
      · rintro H' ⟨l, hl, ll, rl, bx5⟩
        exact ⟨D, l, _, _, _, _, _, rfl, hl, bx4.free hD, ll, rl, bx5⟩
    · rintro σ H3 ⟨p, l, y5, y6, y7, y8, y9, rfl, hp, fp, ll, rl, bx⟩
      refine ⟨RM b m up way H, ?_, ?_⟩
      · -- way 1
        refine ⟨_, rfl, rfl, _, rfl, ite2 (fun e => ?_) (fun e => ⟨p, l, y5, y6, y7, y8, y9, rfl, hp, fp, ll, rl, bx⟩)⟩
        have nP : p ≠ b := BagAt.ne hb fp
        refine ⟨_, rfl, _, rfl, b, _, rfl, bx.1, by omega, by omega, fun most H4 o0 o1 bx4 => ⟨_, _, rfl, rfl, ?_⟩⟩
        refine ⟨_, rfl, b, 2, rfl, bx4.1, by decide, by decide, fun col H5 c0 c1 bx5 => ?_⟩
        refine ⟨_, rfl, _, rfl, by omega, by omega, for_range (lo := 0) (n := m) (fun i σ H' => ∃ (l : List Nat) (c left : Int) (y8 : Option V), σ = [some (.ref b), some (.int (m : Int)), some (.str (sOf up)), some (.int way), some (.ref p), some (.int (1 + most)), some (.int c), some (.int left), y8, y9] ∧ 0 ≤ c ∧ c < 2 ∧ H' p = some (.lst (cells l)) ∧ l.length = m ∧ Row l ∧ Bx b H H')
          ⟨l, col, 0, y8, rfl, c0, c1, bx5.2 _ _ nP (bx4.2 _ _ nP hp), ll, rl, (bx.trans bx4).trans bx5⟩ ?_ ?_⟩
        · rintro i σ H' hi ⟨l, c, left, y8, rfl, c0, c1, hp, ll, rl, bx⟩
          refine ⟨fun σ H' => ∃ (c left : Int) (y8 : Option V), σ = [some (.ref b), some (.int (m : Int)), some (.str (sOf up)), some (.int way), some (.ref p), some (.int (1 + most)), some (.int c), some (.int left), some (.int (0 + (i : Int))), y9] ∧ 0 ≤ c ∧ c < 2 ∧ H' p = some (.lst (cells l)) ∧ Bx b H H', ?_, ?_⟩
          · refine ⟨_, rfl, rfl, _, rfl, ite2 (fun e => ?_) (fun e => ⟨c, left, y8, rfl, c0, c1, hp, bx⟩)⟩
            refine ⟨_, rfl, _, _, rfl, rfl, ?_⟩
            refine ⟨_, rfl, _, rfl, b, _, rfl, bx.1, by omega, by omega, fun d H6 e0 e1 bx6 => ⟨_, _, rfl, rfl, ?_⟩⟩
            exact ⟨1 - c, 1 + d, y8, rfl, by omega, by omega, bx6.2 _ _ nP hp, bx.trans bx6⟩
          · rintro σ H' ⟨c, left, _, rfl, c0, c1, hp, bx⟩
            refine ⟨_, rfl, _, _, _, rfl, rfl, two_len, cell_at c0 c1, _, rfl, _, rfl, _, _, _, _, rfl, rfl, hp, (by rw [Int.zero_add]; exact Evl.ixN_nat (by rw [cells_len]; omega)), ?_⟩
            refine ⟨_, rfl, _, _, rfl, rfl, ?_⟩
            refine ⟨l.set i (cellN c), c, left - 1, some (.int (0 + (i : Int))), rfl, c0, c1, ?_, ?_, rl.set (cellN_cell c), bx.mut fp nP⟩
            · rw [upd_same]
              exact congrArg (fun z => some (HO.lst z)) (cells_set l i (cellN c))
            · rw [List.length_set]
              exact ll
        · rintro σ H' ⟨l, c, left, y8, rfl, c0, c1, hp, ll, rl, bx⟩
          exact ⟨p, l, _, _, _, _, _, rfl, hp, fp, ll, rl, bx⟩
      · rintro σ H3 ⟨p, l, y5, y6, y7, y8, y9, rfl, hp, fp, ll, rl, bx⟩
        refine ⟨RM b m up way H, ?_, ?_⟩
        · -- way 2
          refine ⟨_, rfl, rfl, _, rfl, ite2 (fun e => ?_) (fun e => ⟨p, l, y5, y6, y7, y8, y9, rfl, hp, fp, ll, rl, bx⟩)⟩
          refine ⟨_, rfl, up, rfl, by omega, fun p2 hp2 => ?_⟩
          have f2 : H p2 = none := bx.free hp2
          have n2 : p2 ≠ b := BagAt.ne bx.1 hp2
          refine ⟨_, rfl, by decide, by decide, for_range (lo := 0) (n := 3) (fun i σ H' => ∃ (l : List Nat) (y9 : Option V), σ = [some (.ref b), some (.int (m : Int)), some (.str (sOf up)), some (.int way), some (.ref p2), y5, y6, y7, y8, y9] ∧ H' p2 = some (.lst (cells l)) ∧ l.length = m ∧ Row l ∧ Bx b H H')
            ⟨up, y9, rfl, upd_same, lu, ru, bx.same (same_new hp2)⟩ ?_ ?_⟩
          · rintro i σ H' hi ⟨l, y9, rfl, hp, ll, rl, bx⟩
            refine ⟨_, rfl, b, 2, rfl, bx.1, by decide, by decide, fun d H5 d0 d1 bx5 => ⟨_, _, _, rfl, rfl, two_len, cell_at d0 d1, _, rfl, _, rfl, _, rfl, b, _, rfl, bx5.1, by omega, by omega, fun j H6 j0 j1 bx6 => ?_⟩⟩
            obtain ⟨k, rfl⟩ := Int.eq_ofNat_of_zero_le j0
            refine ⟨_, _, _, k, rfl, rfl, bx6.2 _ _ n2 (bx5.2 _ _ n2 hp), Evl.ixN_nat (by rw [cells_len]; omega), ?_⟩
            refine ⟨l.set k (cellN d), _, rfl, ?_, ?_, rl.set (cellN_cell d), ((bx.trans bx5).trans bx6).mut f2 n2⟩
            · rw [upd_same]
              exact congrArg (fun z => some (HO.lst z)) (cells_set l k (cellN d))
            · rw [List.length_set]
              exact ll
          · rintro σ H' ⟨l, y9, rfl, hp, ll, rl, bx⟩
            exact ⟨p2, l, _, _, _, _, _, rfl, hp, f2, ll, rl, bx⟩
        · rintro σ H3 ⟨p, l, y5, y6, y7, y8, y9, rfl, hp, fp, ll, rl, bx⟩
          refine ⟨⟨_, rfl⟩, _, rfl, _, _, l.map fun c => sOf [c], rfl, rfl, .inl (SqL.of (by rw [← cells_strs]; exact hp)), join_size (by omega), ?_⟩
          rw [join_cells]
          exact q l H3 ll rl bx

/-! ### a page is drawn -/
def Good (n : Nat) (rows : List (List Nat)) : Prop := ∀ r ∈ rows, r.length = n ∧ Row r
theorem Good.app {n : Nat} {rows : List (List Nat)} {l : List Nat} (h : Good n rows) (ll : l.length = n) (rl : Row l) : Good n (rows ++ [l]) := fun r hr => by
  rcases List.mem_append.mp hr with e | e
  · exact h r e
  · rw [List.mem_singleton.mp e]
    exact ⟨ll, rl⟩
def spPage : Sp := fun vs H Q _ => ∃ (b : Addr) (mc mr : Nat), vs = [.ref b, .int mc, .int mr] ∧ BagAt H b ∧ 8 ≤ mc ∧ mc ≤ 64 ∧ 1 ≤ mr ∧ mr ≤ 24 ∧
  ∀ (p : Addr) (rows : List (List Nat)) (n : Nat) (H' : Hp), 8 ≤ n → n ≤ mc → 1 ≤ rows.length → rows.length ≤ mr → Good n rows → H p = none → H' p = some (.tup (rows.map sV)) → Bx b H H' → Q (.ref p) H'
theorem last_of {α : Type} {xs : List α} {n : Nat} (h : xs.length = n + 1) : ∃ ys y, xs = ys ++ [y] := by
  have h0 : xs ≠ [] := fun e => by
    rw [e] at h
    cases h
  exact ⟨xs.dropLast, xs.getLast h0, (List.dropLast_concat_getLast h0).symm⟩
theorem ok_page {A : Ad} (T : Txt w K mg base A) : FnOk P w K mg base CX0 3 A.a_page A.d_page P_page spPage := by
  have G_draw := ok_draw (P := P) (w := w) (base := base) T
  have G_row := ok_row (P := P) (w := w) (base := base) T
  refine T.F_page.ok sc_page (fun vs H Q E h => ?_) (fun cdv Ar outer s H vs Q E hr h => ?_)
  · obtain ⟨b, mc, mr, rfl, _⟩ := h
    rfl
  · obtain ⟨b, mc, mr, rfl, hb, c0, c1, r0, r1, q⟩ := h
    refine ⟨_, (pss_cons (ps_set (i := 3) sc_page.nd rfl (Or.inl rfl) (pe_op op_add pe_int (pe_call G_draw (hr.mono (by decide)) (by rfl) T.g_draw T.F_draw.kp T.b_draw .nil pass0 (pa_cons (pv 0) (pa_cons (pe_op op_sub (pv 1) pe_int) pa_nil)))))
      (pss_cons (ps_set (i := 4) sc_page.nd rfl (Or.inl rfl) (pe_op op_add pe_int (pe_call G_draw (hr.mono (by decide)) (by rfl) T.g_draw T.F_draw.kp T.b_draw .nil pass0 (pa_cons (pv 0) (pa_cons (pv 2) pa_nil)))))
      (Evl.pss_cut (ps_if (pt_cmpR op_eq (pe_call G_draw (hr.mono (by decide)) (by rfl) T.g_draw T.F_draw.kp T.b_draw .nil pass0 (pa_cons (pv 0) (pa_cons pe_int pa_nil))) pe_int (nomark _))
      (pss_one (ps_par (i := 3) (j := 4) (by rfl) sc_page.nd rfl rfl (by decide) rfl rfl (pa_cons (pv 1) (pa_cons (pv 2) pa_nil)) (by rfl))) pss_nil)
      (pss_cons (ps_set (i := 5) sc_page.nd rfl (Or.inl rfl) (pe_lst (pa_cons (pe_op op_mul_str pe_str (pv 3)) pa_nil)))
      (Evl.pss_cut (ps_for PassesOwn.never rfl (pi_range1 (by rfl) T.z_range (pa_cons (pv 4) pa_nil)) (pg_name (i := 6) sc_page.nd rfl (Or.inl rfl))
      (pss_one (ps_expr (pe_bm PySem.F.plainAttrs_list PySem.F.slot_list_append PySem.F.type_list_append mt_append (pv 5) (pa_cons (pe_call G_row (hr.mono (by decide)) (by rfl) T.g_row T.F_row.kp T.b_row .nil pass0 (pa_cons (pv 0) (pa_cons (pv 3) (pa_cons (pe_ix (r := rIxL K) ix_list (pv 5) (pe_un un_neg pe_int) (fun _ _ => rfl)) pa_nil)))) pa_nil)))))
      (pss_one (ps_ret (pe_callTy call_tuple_of (by rfl) T.z_tuple (by decide +kernel) (pa_cons (pe_slice sl_list (pv 5) (po_some pe_int) po_none) pa_nil))))))))), ?_⟩
    refine ⟨_, rfl, _, rfl, _, _, rfl, rfl, b, _, rfl, hb, by omega, by omega, fun d1 H1 a0 a1 bx1 => ⟨_, _, rfl, rfl, ?_⟩⟩
    refine ⟨_, rfl, _, rfl, b, _, rfl, bx1.1, by omega, by omega, fun d2 H2 e0 e1 bx2 => ⟨_, _, rfl, rfl, ?_⟩⟩
    refine ⟨fun σ H' => ∃ (n many : Nat), σ = [some (.ref b), some (.int mc), some (.int mr), some (.int n), some (.int many), none, none] ∧ 8 ≤ n ∧ n ≤ mc ∧ 1 ≤ many ∧ many ≤ mr ∧ Bx b H H', ?_, ?_⟩
    · refine ⟨_, rfl, b, 8, rfl, bx2.1, by decide, by decide, fun d3 H3 f0 f1 bx3 => ⟨rfl, _, rfl, ite2 (fun e => ?_) (fun e => ?_)⟩⟩
      · exact ⟨_, rfl, _, rfl, _, _, rfl, mc, mr, rfl, c0, Nat.le_refl _, r0, Nat.le_refl _, (bx1.trans bx2).trans bx3⟩
      · obtain ⟨n, en⟩ := Int.eq_ofNat_of_zero_le (show 0 ≤ 8 + d1 by omega)
        obtain ⟨m, em⟩ := Int.eq_ofNat_of_zero_le (show 0 ≤ 1 + d2 by omega)
        exact ⟨n, m, by rw [← en, ← em]; rfl, by omega, by omega, by omega, by omega, (bx1.trans bx2).trans bx3⟩
    · rintro σ H4 ⟨n, many, rfl, n0, n1, m0, m1, bx4⟩
      refine ⟨_, rfl, 46, _, rfl, rfl, ⟨by omega, by omega⟩, (by show 1 ≤ sizeLine; decide), fun p hp => ?_⟩
      have fp : H p = none := bx4.free hp
      have np : p ≠ b := BagAt.ne bx4.1 hp
      refine ⟨fun σ H' => ∃ (rows : List (List Nat)) (y6 : Option V), σ = [some (.ref b), some (.int mc), some (.int mr), some (.int n), some (.int many), some (.ref p), y6] ∧ H' p = some (.lst (rows.map sV)) ∧ rows.length = many + 1 ∧ Good n rows ∧ Bx b H H', ?_, ?_⟩
      · refine ⟨_, rfl, _, rfl, by omega, by omega, for_range (lo := 0) (n := many) (fun i σ H' => ∃ (rows : List (List Nat)) (y6 : Option V), σ = [some (.ref b), some (.int mc), some (.int mr), some (.int n), some (.int many), some (.ref p), y6] ∧ H' p = some (.lst (rows.map sV)) ∧ rows.length = i + 1 ∧ Good n rows ∧ Bx b H H')
          ⟨[List.replicate n 46], none, rfl, upd_same, rfl, fun r hr => by rw [List.mem_singleton.mp hr]; exact ⟨List.length_replicate, Row.rep (.inl rfl)⟩, bx4.same (same_new hp)⟩ ?_ (fun σ H' h => h)⟩
        rintro i σ H5 hi ⟨rows, y6, rfl, h5, lr, gr, bx5⟩
        obtain ⟨ys, y, rfl⟩ := last_of lr
        have gy := gr y (List.mem_append.mpr (.inr (List.mem_singleton.mpr rfl)))
        refine ⟨_, rfl, .inl ⟨rfl, _, SqL.of h5⟩, _, rfl, _, rfl, _, rfl, 1, rfl, _, _, _, sV y, rfl, rfl, SqL.of h5, ?_, b, n, y, _, rfl, rfl, bx5.1, by omega, by omega, gy.1, gy.2, fun l H6 ll rl bx6 => ?_⟩
        · rw [List.map_append]
          exact atI_last _ _
        · refine ⟨_, _, _, rfl, rfl, bx6.2 _ _ np h5, ?_, ys ++ [y] ++ [l], _, rfl, ?_, ?_, gr.app ll rl, (bx5.trans bx6).mut fp np⟩
          · rw [List.length_map, lr]
            exact szl (by omega)
          · rw [upd_same, List.map_append (l₂ := [l])]
            rfl
          · rw [List.length_append, lr]
            rfl
      · rintro σ H5 ⟨rows, y6, rfl, h5, lr, gr, bx5⟩
        refine ⟨_, rfl, 1, rfl, _, _, rfl, SqL.of h5, fun c hc => ⟨_, _, rfl, .inl ⟨SqL.of upd_same, fun t ht => ?_⟩⟩⟩
        have s6 : Same H5 (upd H5 c (.lst (cutV (rows.map sV) (some 1) none))) := same_new hc
        have bx6 := (bx5.same s6).same (same_new (o := .tup (cutV (rows.map sV) (some 1) none)) ht)
        refine q t (rows.drop 1) n _ n0 n1 ?_ ?_ (fun r hr => gr r (List.mem_of_mem_drop hr)) ((bx5.same s6).free ht) ?_ bx6
        · rw [List.length_drop]
          omega
        · rw [List.length_drop]
          omega
        · rw [upd_same, cut1, List.map_drop]

/-! ### rows and pages told of things -/
inductive Kd where
  | txt (z : Str)
  | oth (t : String)
def okC (c : Nat) : Bool := c == 46 || c == 35
def isRowK : Kd → Bool
  | .txt z => decide (8 ≤ z.length) && decide (z.length ≤ 64) && z.cps.toList.all okC
  | .oth _ => false
theorem isRowK_txt (z : Str) : isRowK (.txt z) = (decide (8 ≤ z.length) && decide (z.length ≤ 64) && z.cps.toList.all okC) := rfl
def kLen : Kd → Nat
  | .txt z => z.length
  | .oth _ => 0
def Is1 (K : PySem.W.Frag) (H : Hp) (v : V) : Kd → Prop
  | .txt z => v = .str z ∧ z.length ≤ 100000
  | .oth t => TyOf K H v (.type t) ∧ t ∈ ["NoneType", "bool", "int", "list", "tuple"]
def len0 (ks : List Kd) : Nat := kLen (ks.headD (.oth ""))
def isPageK (ks : List Kd) : Bool := decide (1 ≤ ks.length) && decide (ks.length ≤ 24) && ks.all isRowK && ks.all fun k => decide (kLen k = len0 ks)
def IsP (K : PySem.W.Frag) (H : Hp) (v : V) : Option (List Kd) → Prop
  | none => ∃ t, TyOf K H v (.type t) ∧ t ∈ ["NoneType", "bool", "int", "list", "str"]
  | some ks => ∃ a xs, v = .ref a ∧ H a = some (.tup xs) ∧ xs.length ≤ 50000 ∧ Paired (Is1 K H) xs ks
def isPageO : Option (List Kd) → Bool
  | none => false
  | some ks => isPageK ks
theorem isPageO_some (ks : List Kd) : isPageO (some ks) = (decide (1 ≤ ks.length) && decide (ks.length ≤ 24) && ks.all isRowK && ks.all fun k => decide (kLen k = len0 ks)) := rfl
theorem tyOf_same {H H' : Hp} {v : V} {t : String} (e : Same H H') (h : TyOf K H v (.type t)) : TyOf K H' v (.type t) := by
  cases h with
  | non => exact .non
  | bl x => exact .bl x
  | int i => exact .int i
  | str x => exact .str x
  | flt x => exact .flt x
  | lst h => exact .lst (e _ _ h)
  | frz h => exact .frz (e _ _ h)
  | tup h => exact .tup (e _ _ h)
  | dK h => exact .dK (e _ _ h)
  | dT h => exact .dT (e _ _ h)
theorem is1_same {H H' : Hp} {v : V} {k : Kd} (e : Same H H') (h : Is1 K H v k) : Is1 K H' v k := by
  cases k with
  | txt z => exact h
  | oth t => exact ⟨tyOf_same e h.1, h.2⟩
theorem pair_same {H H' : Hp} (e : Same H H') : ∀ {xs : List V} {ks : List Kd}, Paired (Is1 K H) xs ks → Paired (Is1 K H') xs ks
  | _, _, .nil => .nil
  | _, _, .cons h r => .cons (is1_same e h) (pair_same e r)
theorem pair_get {H : Hp} : ∀ {xs : List V} {ks : List Kd} {i : Nat} {x : V}, Paired (Is1 K H) xs ks → xs[i]? = some x → ∃ k, ks[i]? = some k ∧ Is1 K H x k
  | _, _, i, x, .nil, h => by simp at h
  | _, _, 0, x, .cons a r, h => ⟨_, rfl, by
    have e := Option.some.inj h
    rw [← e]
    exact a⟩
  | _, _, i + 1, x, .cons a r, h => pair_get (i := i) r h
theorem isS_no {t : String} (h : t ∈ ["NoneType", "bool", "int", "list", "tuple"]) : PySem.W.kitOne K (.type t) (.type "str") = some false := by
  have : ∀ t ∈ ["NoneType", "bool", "int", "list", "tuple"], kitB t "str" = some false := by decide +kernel
  exact kit_ty (this t h)
theorem isT_no {t : String} (h : t ∈ ["NoneType", "bool", "int", "list", "str"]) : PySem.W.kitOne K (.type t) (.type "tuple") = some false := by
  have : ∀ t ∈ ["NoneType", "bool", "int", "list", "str"], kitB t "tuple" = some false := by decide +kernel
  exact kit_ty (this t h)
theorem isS_yes : PySem.W.kitOne K (.type "str") (.type "str") = some true := kit_ty (by decide +kernel)
theorem isT_yes : PySem.W.kitOne K (.type "tuple") (.type "tuple") = some true := kit_ty (by decide +kernel)
def spIsRow (K : PySem.W.Frag) : Sp := fun vs H Q _ => ∃ (v : V) (k : Kd), vs = [v] ∧ Is1 K H v k ∧ ∀ H', Same H H' → Q (.bl (isRowK k)) H'
theorem inV_cell (c : Nat) : inV (.str ⟨#[c]⟩) [.str (Str.ofString "."), .str (Str.ofString "#")] = okC c := by
  have e1 : eqV (.str (Str.ofString ".")) (.str ⟨#[c]⟩) = (c == 46) := by
    show decide (sOf [46] = sOf [c]) = (c == 46)
    rw [Bool.eq_iff_iff, decide_eq_true_eq, beq_iff_eq]
    exact ⟨fun h => by have := sOf_inj h; simp_all, fun h => by rw [h]⟩
  have e2 : eqV (.str (Str.ofString "#")) (.str ⟨#[c]⟩) = (c == 35) := by
    show decide (sOf [35] = sOf [c]) = (c == 35)
    rw [Bool.eq_iff_iff, decide_eq_true_eq, beq_iff_eq]
    exact ⟨fun h => by have := sOf_inj h; simp_all, fun h => by rw [h]⟩
  show (eqV (.str (Str.ofString ".")) (.str ⟨#[c]⟩) || (eqV (.str (Str.ofString "#")) (.str ⟨#[c]⟩) || false)) = okC c
  rw [e1, e2, Bool.or_false]
  rfl
theorem cps_get {z : Str} {i c : Nat} (h : z.cps[i]? = some c) : z.cps.toList[i]? = some c := by simpa using h
theorem ok_is_row {A : Ad} (T : Txt w K mg base A) : FnOk P w K mg base CX0 1 A.a_is_row A.d_is_row P_is_row (spIsRow K) := by
  refine T.F_is_row.ok sc_is_row (fun vs H Q E h => ?_) (fun cdv Ar outer s H vs Q E hr h => ?_)
  · obtain ⟨v, k, rfl, _⟩ := h
    rfl
  · obtain ⟨v, k, rfl, hk, q⟩ := h
    refine ⟨_, (pss_cons (ps_if (pt_not (pt_val (pe_callB (r := rIsi K) call_isi (by rfl) T.z_isinstance (by decide +kernel) (pa_cons (pv 0) (pa_cons (pe_bltn (v := .ty "str") (by rfl) T.z_str (by decide +kernel) rfl) pa_nil)))))
      (pss_one (ps_ret pe_bl)) pss_nil)
      (pss_cons (ps_if (pt_not (pt_chain op_le op_le (pe_glob (v := .int (8)) (by rfl) T.c_LEAST_BREADTH ⟨_, rfl⟩) (pe_callB call_len_str (by rfl) T.z_len PySem.boot_len (pa_cons (pv 0) pa_nil)) (pe_glob (v := .int (64)) (by rfl) T.c_MOST_BREADTH ⟨_, rfl⟩)))
      (pss_one (ps_ret pe_bl)) pss_nil)
      (pss_one (ps_ret (pe_callB (cr_all rfl) (by rfl) T.z_all (by decide +kernel) (pa_cons (pe_lc (own := [("cell", 1)]) (g := gName 1) (tt := tYes) (by rfl) sc_is_row.nd (pi_str (pv 0)) (blkOk_by (own := [("cell", 1)]) (N := N_is_row) (sc := defScope s_is_row) (by decide +kernel)) (fun _ _ _ _ _ => pg_name (i := 1) sc_is_row.nd rfl (Or.inl rfl)) (fun _ _ _ _ _ => pts_nil) (fun s5 H5 C5 cl5 fp5 => (pe_cmpR (r := rIn K false) op_in_seq (pv 1) (pe_tup (pa_cons (pe_glob (v := .str (Str.ofString ".")) (by rfl) T.c_LIGHT ⟨_, rfl⟩) (pa_cons (pe_glob (v := .str (Str.ofString "#")) (by rfl) T.c_DARK ⟨_, rfl⟩) pa_nil))) (by rfl)))) pa_nil)))))), ?_⟩
    cases k with
    | oth t =>
      refine ⟨_, rfl, _, _, _, _, false, rfl, ClsV.ty _, TyX.base hk.1, isS_no hk.2, _, rfl, ?_⟩
      exact q H (Same.refl H)
    | txt z =>
      obtain ⟨rfl, hz⟩ := hk
      have hl : z.length ≤ sizeLine := sz hz
      refine ⟨_, rfl, _, _, _, _, true, rfl, ClsV.ty _, TyX.base (.str _), isS_yes, _, rfl, ?_⟩
      refine ⟨_, rfl, _, rfl, hl, _, _, rfl, rfl, _, rfl, ite2 (fun e => ?_) (fun e => ?_)⟩
      · have e8 : 8 ≤ z.length := by
          have := of_decide_eq_true e
          omega
        refine ⟨_, _, rfl, rfl, _, rfl, ?_⟩
        by_cases h64 : z.length ≤ 64
        · have d64 : decide ((z.length : Int) ≤ 64) = true := decide_eq_true (by omega)
          rw [d64]
          refine ⟨_, rfl, _, rfl, fun D hD => lc_it (walk_str (z := z)) (fun i H' => Same H H' ∧ H' D = some (.lst ((z.cps.toList.take i).map fun c => V.bl (okC c)))) ⟨same_new hD, upd_same⟩ (fun _ _ _ _ => trivial) ?_ ?_⟩
          · rintro i x H1 H2 hi ⟨sm, hD1⟩ ⟨rfl, c, hc, rfl⟩
            refine ⟨rfl, _, rfl, (by show 2 ≤ sizeLine; decide), fun p hp => ⟨p, _, rfl, .inr (.inl (.inl upd_same)), rfl, rfl, ?_⟩⟩
            have nD : D ≠ p := ne_of_none hD1 hp
            refine ⟨_, by rw [upd_ne nD]; exact hD1, ?_, Same.mut (sm.trans (same_new hp)) hD, ?_⟩
            · rw [List.length_map, List.length_take]
              have hi' : i < z.length := hi
              exact szl (by omega)
            · rw [upd_same, take_more z.cps.toList i c (cps_get hc), List.map_append]
              show some (HO.lst (_ ++ [V.bl (inV (.str ⟨#[c]⟩) [.str (Str.ofString "."), .str (Str.ofString "#")])])) = _
              rw [inV_cell]
              rfl
          · rintro H1 ⟨sm, hD1⟩
            have et : z.cps.toList.take z.cps.size = z.cps.toList := List.take_of_length_le (by rw [Array.length_toList]; exact Nat.le_refl _)
            rw [et] at hD1
            refine ⟨_, z.cps.toList.map okC, rfl, SqL.of (by rw [List.map_map]; exact hD1), ?_⟩
            have h2 := q H1 sm
            rw [isRowK_txt] at h2
            rw [decide_eq_true e8, decide_eq_true h64, Bool.true_and, Bool.true_and] at h2
            rw [List.all_map]
            exact h2
        · have d64 : decide ((z.length : Int) ≤ 64) = false := decide_eq_false (by omega)
          rw [d64]
          have h2 := q H (Same.refl H)
          rw [isRowK_txt] at h2
          rw [decide_eq_false h64, Bool.and_false, Bool.false_and] at h2
          exact h2
      · have e8 : ¬ 8 ≤ z.length := fun n => e (decide_eq_true (by omega))
        refine ⟨_, rfl, ?_⟩
        have h2 := q H (Same.refl H)
        rw [isRowK_txt] at h2
        rw [decide_eq_false e8, Bool.false_and, Bool.false_and] at h2
        exact h2
def spLawIsRow (K : PySem.W.Frag) : Sp := fun vs H Q _ => ∃ (v : V) (k : Kd), vs = [v] ∧ Is1 K H v k ∧ Q (.bl (isRowK k)) H
theorem ne_sign (c d : Nat) : (!decide (V.str ⟨#[c]⟩ = V.str (sOf [d]))) = !(c == d) := by
  congr 1
  rw [Bool.eq_iff_iff, decide_eq_true_eq, beq_iff_eq]
  exact ⟨fun h => by
    have h2 : sOf [c] = sOf [d] := V.str.inj h
    have := sOf_inj h2
    simp_all, fun h => by rw [h]; rfl⟩
theorem ok_is_row_l {A : Ad} (T : Txt w K mg base A) : FnOk P w K mg base CX0 1 A.a_is_row_l A.d_is_row_l P_is_row_l (spLawIsRow K) := by
  refine T.F_is_row_l.ok sc_is_row_l (fun vs H Q E h => ?_) (fun cdv Ar outer s H vs Q E hr h => ?_)
  · obtain ⟨v, k, rfl, _⟩ := h
    rfl
  · obtain ⟨v, k, rfl, hk, q⟩ := h
    refine ⟨_, (pss_cons (ps_if (PW.pt (pw_or (pt_not (pt_val (pe_callB (r := rIsi K) call_isi (by rfl) T.z_isinstance (by decide +kernel) (pa_cons (pv 0) (pa_cons (pe_bltn (v := .ty "str") (by rfl) T.z_str (by decide +kernel) rfl) pa_nil))))) (pw_or (pt_cmpR op_lt (pe_callB call_len_str (by rfl) T.z_len PySem.boot_len (pa_cons (pv 0) pa_nil)) pe_int (nomark _)) (pw_or1 (pt_cmpR op_gt (pe_callB call_len_str (by rfl) T.z_len PySem.boot_len (pa_cons (pv 0) pa_nil)) pe_int (nomark _))))))
      (pss_one (ps_ret pe_bl)) pss_nil)
      (pss_cons (ps_for PassesOwn.never rfl (pi_str (pv 0)) (pg_name (i := 1) sc_is_row_l.nd rfl (Or.inl rfl))
      (pss_one (ps_if (PW.pt (pw_and (pt_cmpR op_ne (pv 1) pe_str (nomark _)) (pw_and1 (pt_cmpR op_ne (pv 1) pe_str (nomark _)))))
      (pss_one (ps_ret pe_bl)) pss_nil)))
      (pss_one (ps_ret pe_bl)))), ?_⟩
    cases k with
    | oth t =>
      refine ⟨_, rfl, _, _, _, _, false, rfl, ClsV.ty _, TyX.base hk.1, isS_no hk.2, _, rfl, ?_⟩
      exact q
    | txt z =>
      obtain ⟨rfl, hz⟩ := hk
      have hl : z.length ≤ sizeLine := sz hz
      refine ⟨_, rfl, _, _, _, _, true, rfl, ClsV.ty _, TyX.base (.str _), isS_yes, _, rfl, ?_⟩
      refine ⟨_, rfl, _, rfl, hl, _, _, rfl, rfl, _, rfl, ite2 (fun e => ?_) (fun e => ?_)⟩
      · have e8 : ¬ 8 ≤ z.length := by
          have := of_decide_eq_true e
          omega
        rw [isRowK_txt] at q
        rw [decide_eq_false e8, Bool.false_and, Bool.false_and] at q
        exact q
      · have e8 : 8 ≤ z.length := Nat.not_lt.mp fun n => e (decide_eq_true (by omega))
        refine ⟨_, rfl, _, rfl, hl, _, _, rfl, rfl, _, rfl, ite2 (fun e2 => ?_) (fun e2 => ?_)⟩
        · have h64 : ¬ z.length ≤ 64 := by
            have := of_decide_eq_true e2
            omega
          rw [isRowK_txt] at q
          rw [decide_eq_false h64, Bool.and_false, Bool.false_and] at q
          exact q
        · have h64 : z.length ≤ 64 := Nat.not_lt.mp fun n => e2 (decide_eq_true (by omega))
          rw [isRowK_txt] at q
          rw [decide_eq_true e8, decide_eq_true h64, Bool.true_and, Bool.true_and] at q
          refine ⟨_, rfl, _, rfl, for_it (walk_str (z := z)) (fun i σ H' => ∃ y1, σ = [some (.str z), y1] ∧ H' = H ∧ (z.cps.toList.take i).all okC = true) ⟨none, rfl, rfl, rfl⟩ (fun _ _ _ _ _ => trivial) ?_ ?_⟩
          · rintro i x σ H1 H2 hi ⟨y1, rfl, rfl, hall⟩ ⟨rfl, c, hc, rfl⟩
            have hc' := cps_get hc
            refine ⟨_, rfl, rfl, _, rfl, ?_⟩
            rw [show (!decide (V.str ⟨#[c]⟩ = V.str (Str.ofString "."))) = !(c == 46) from ne_sign c 46]
            have bad : okC c = false → z.cps.toList.all okC = false := fun h => by
              rw [← Bool.not_eq_true]
              intro h3
              rw [List.all_eq_true] at h3
              rw [h3 c (List.mem_of_getElem? hc')] at h
              cases h
            have more : okC c = true → (z.cps.toList.take (i + 1)).all okC = true := fun h => by
              rw [take_more z.cps.toList i c hc', List.all_append, hall]
              simp [h]
            cases h46 : (c == 46) with
            | true => exact ⟨_, rfl, rfl, more (by unfold okC; rw [h46]; rfl)⟩
            | false =>
              refine ⟨_, rfl, rfl, _, rfl, ?_⟩
              rw [show (!decide (V.str ⟨#[c]⟩ = V.str (Str.ofString "#"))) = !(c == 35) from ne_sign c 35]
              cases h35 : (c == 35) with
              | true => exact ⟨_, rfl, rfl, more (by unfold okC; rw [h46, h35]; rfl)⟩
              | false =>
                rw [bad (by unfold okC; rw [h46, h35]; rfl)] at q
                exact q
          · rintro σ H1 ⟨y1, rfl, rfl, hall⟩
            rw [List.take_of_length_le (by rw [Array.length_toList]; exact Nat.le_refl _)] at hall
            rw [hall] at q
            exact q
def spIsPage (K : PySem.W.Frag) : Sp := fun vs H Q _ => ∃ (v : V) (o : Option (List Kd)), vs = [v] ∧ IsP K H v o ∧ ∀ H', Same H H' → Q (.bl (isPageO o)) H'
theorem txt_of {H : Hp} {v : V} {k : Kd} (h : Is1 K H v k) (r : isRowK k = true) : ∃ z, k = .txt z ∧ v = .str z ∧ z.length ≤ 100000 := by
  cases k with
  | txt z => exact ⟨z, rfl, h.1, h.2⟩
  | oth t => cases r
theorem ok_is_page {A : Ad} (T : Txt w K mg base A) : FnOk P w K mg base CX0 2 A.a_is_page A.d_is_page P_is_page (spIsPage K) := by
  have G_is_row := ok_is_row (P := P) (w := w) (base := base) T
  refine T.F_is_page.ok sc_is_page (fun vs H Q E h => ?_) (fun cdv Ar outer s H vs Q E hr h => ?_)
  · obtain ⟨v, o, rfl, _⟩ := h
    rfl
  · obtain ⟨v, o, rfl, hk, q⟩ := h
    refine ⟨_, (pss_cons (ps_if (pt_not (pt_val (pe_callB (r := rIsi K) call_isi (by rfl) T.z_isinstance (by decide +kernel) (pa_cons (pv 0) (pa_cons (pe_bltn (v := .ty "tuple") (by rfl) T.z_tuple (by decide +kernel) rfl) pa_nil)))))
      (pss_one (ps_ret pe_bl)) pss_nil)
      (pss_cons (ps_if (pt_not (pt_chain op_le op_le pe_int (pe_callB (r := fun xs H Q => ∃ p ys, xs = [.ref p] ∧ (SqL K H p ys ∨ SqT K H p ys) ∧ Q (.int ys.length) H) call_len_seq (by rfl) T.z_len PySem.boot_len (pa_cons (pv 0) pa_nil)) (pe_glob (v := .int (24)) (by rfl) T.c_MOST_ROWS ⟨_, rfl⟩)))
      (pss_one (ps_ret pe_bl)) pss_nil)
      (pss_cons (ps_if (pt_not (pt_val (pe_callB (cr_all rfl) (by rfl) T.z_all (by decide +kernel) (pa_cons (pe_lc (own := [("row", 1)]) (g := gName 1) (tt := tYes) (by rfl) sc_is_page.nd (pi_tup (pv 0)) (blkOk_by (own := [("row", 1)]) (N := N_is_page) (sc := defScope s_is_page) (by decide +kernel)) (fun _ _ _ _ _ => pg_name (i := 1) sc_is_page.nd rfl (Or.inl rfl)) (fun _ _ _ _ _ => pts_nil) (fun s5 H5 C5 cl5 fp5 => (pe_call G_is_row (hr.mono (by decide)) (by rfl) T.g_is_row T.F_is_row.kp T.b_is_row .nil pass0 (pa_cons (pv 1) pa_nil)))) pa_nil))))
      (pss_one (ps_ret pe_bl)) pss_nil)
      (pss_one (ps_ret (pe_callB (cr_all rfl) (by rfl) T.z_all (by decide +kernel) (pa_cons (pe_lc (own := [("row", 1)]) (g := gName 1) (tt := tYes) (by rfl) sc_is_page.nd (pi_tup (pv 0)) (blkOk_by (own := [("row", 1)]) (N := N_is_page) (sc := defScope s_is_page) (by decide +kernel)) (fun _ _ _ _ _ => pg_name (i := 1) sc_is_page.nd rfl (Or.inl rfl)) (fun _ _ _ _ _ => pts_nil) (fun s5 H5 C5 cl5 fp5 => (pe_cmpR op_eq (pe_callB call_len_str (by rfl) T.z_len PySem.boot_len (pa_cons (pv 1) pa_nil)) (pe_callB call_len_str (by rfl) T.z_len PySem.boot_len (pa_cons (pe_ix (r := rIxT K) ix_tup (pv 0) pe_int (fun _ _ => rfl)) pa_nil)) (nomark _)))) pa_nil))))))), ?_⟩
    cases o with
    | none =>
      obtain ⟨t, ht, hm⟩ := hk
      refine ⟨_, rfl, _, _, _, _, false, rfl, ClsV.ty _, TyX.base ht, isT_no hm, _, rfl, ?_⟩
      exact q H (Same.refl H)
    | some ks =>
      obtain ⟨a, xs, rfl, ha, lx, hp⟩ := hk
      have ln : xs.length = ks.length := Paired.length hp
      refine ⟨_, rfl, _, _, _, _, true, rfl, ClsV.ty _, TyX.base (.tup ha), isT_yes, _, rfl, ?_⟩
      refine ⟨_, rfl, _, _, rfl, .inr (.inl (.inl ha)), _, _, rfl, rfl, _, rfl, ite2 (fun e => ?_) (fun e => ?_)⟩
      · have e1 : 1 ≤ ks.length := by
          have := of_decide_eq_true e
          omega
        refine ⟨_, _, rfl, rfl, _, rfl, ?_⟩
        by_cases h24 : ks.length ≤ 24
        · have d24 : decide ((xs.length : Int) ≤ 24) = true := decide_eq_true (by omega)
          rw [d24]
          refine ⟨_, rfl, a, rfl, ⟨_, .inl (.inl ha)⟩, fun D hD => lc_tup (K := K) (a := a) (xs := xs) (fun i H' => Same H H' ∧ H' D = some (.lst ((ks.take i).map fun k => V.bl (isRowK k)))) ⟨same_new hD, upd_same⟩ (fun i H' _ z => .inl (.inl (z.1 _ _ ha))) ?_ ?_⟩
          · rintro i x H1 hx ⟨sm, hD1⟩
            obtain ⟨k, hk, h1⟩ := pair_get hp hx
            have hi : i < ks.length := (List.getElem?_eq_some_iff.mp hk).1
            refine ⟨rfl, _, rfl, x, k, rfl, is1_same sm h1, fun H2 s2 => ⟨_, s2 _ _ hD1, ?_, Same.mut (sm.trans s2) hD, ?_⟩⟩
            · rw [List.length_map, List.length_take]
              exact szl (by omega)
            · rw [upd_same, take_more ks i k hk, List.map_append]
              rfl
          · rintro H1 ⟨sm, hD1⟩
            rw [List.take_of_length_le (by omega)] at hD1
            refine ⟨_, ks.map isRowK, rfl, SqL.of (by rw [List.map_map]; exact hD1), _, rfl, ?_⟩
            have hall : (ks.map isRowK).all id = ks.all isRowK := by
              rw [List.all_map]
              rfl
            rw [hall]
            cases hr : ks.all isRowK with
            | false =>
              have h2 := q H1 sm
              rw [isPageO_some] at h2
              rw [hr, Bool.and_false, Bool.false_and] at h2
              exact h2
            | true =>
              have rk : ∀ k ∈ ks, isRowK k = true := List.all_eq_true.mp hr
              obtain ⟨x0, xr, rfl⟩ : ∃ x0 xr, xs = x0 :: xr := by
                cases xs with
                | nil =>
                  rw [← ln] at e1
                  exact absurd e1 (by decide)
                | cons x r => exact ⟨x, r, rfl⟩
              obtain ⟨k0, hk0, h10⟩ := pair_get hp (i := 0) rfl
              obtain ⟨z0, rfl, rfl, lz0⟩ := txt_of h10 (rk k0 (List.mem_of_getElem? hk0))
              have l0 : len0 ks = z0.length := by
                cases ks with
                | nil => cases hk0
                | cons k r =>
                  have := Option.some.inj hk0
                  subst this
                  rfl
              refine ⟨_, rfl, a, rfl, ⟨_, .inl (.inl (sm _ _ ha))⟩, fun D2 hD2 => lc_tup (K := K) (a := a) (xs := .str z0 :: xr) (fun i H' => Same H1 H' ∧ H' D2 = some (.lst ((ks.take i).map fun k => V.bl (decide (kLen k = len0 ks))))) ⟨same_new hD2, upd_same⟩ (fun i H' _ z => .inl (.inl (z.1 _ _ (sm _ _ ha)))) ?_ ?_⟩
              · rintro i x H2 hx ⟨s2, hD3⟩
                obtain ⟨k, hk, h1⟩ := pair_get hp hx
                have hi : i < ks.length := (List.getElem?_eq_some_iff.mp hk).1
                obtain ⟨z, rfl, rfl, lz⟩ := txt_of h1 (rk k (List.mem_of_getElem? hk))
                refine ⟨rfl, _, rfl, _, rfl, sz lz, _, rfl, _, _, _, .str z0, rfl, rfl, .inl (.inl (s2 _ _ (sm _ _ ha))), atI_nat (j := 0) rfl, _, rfl, sz lz0, rfl, _, hD3, ?_, Same.mut s2 hD2, ?_⟩
                · rw [List.length_map, List.length_take]
                  exact szl (by omega)
                · rw [upd_same, take_more ks i _ hk, List.map_append, l0]
                  have ed : decide (V.int (z.length : Int) = V.int (z0.length : Int)) = decide (kLen (.txt z) = z0.length) := by
                    apply decide_eq_decide.mpr
                    exact ⟨fun h => by
                      have := V.int.inj h
                      show z.length = z0.length
                      omega, fun h => by
                      have : z.length = z0.length := h
                      rw [this]⟩
                  rw [ed]
                  rfl
              · rintro H2 ⟨s2, hD3⟩
                rw [List.take_of_length_le (by omega)] at hD3
                refine ⟨_, ks.map fun k => decide (kLen k = len0 ks), rfl, SqL.of (by rw [List.map_map]; exact hD3), ?_⟩
                have h2 := q H2 (sm.trans s2)
                rw [isPageO_some] at h2
                rw [hr, decide_eq_true e1, decide_eq_true h24, Bool.true_and, Bool.true_and, Bool.true_and] at h2
                rw [List.all_map]
                exact h2
        · have d24 : decide ((xs.length : Int) ≤ 24) = false := decide_eq_false (by omega)
          rw [d24]
          have h2 := q H (Same.refl H)
          rw [isPageO_some] at h2
          rw [decide_eq_false h24, Bool.and_false, Bool.false_and, Bool.false_and] at h2
          exact h2
      · have e1 : ¬ 1 ≤ ks.length := fun n => e (decide_eq_true (by omega))
        refine ⟨_, rfl, ?_⟩
        have h2 := q H (Same.refl H)
        rw [isPageO_some] at h2
        rw [decide_eq_false e1, Bool.false_and, Bool.false_and, Bool.false_and] at h2
        exact h2
def spLawIsPage (K : PySem.W.Frag) : Sp := fun vs H Q _ => ∃ (v : V) (o : Option (List Kd)), vs = [v] ∧ IsP K H v o ∧ Q (.bl (isPageO o)) H
theorem ok_is_page_l {A : Ad} (T : Txt w K mg base A) : FnOk P w K mg base CX0 2 A.a_is_page_l A.d_is_page_l P_is_page_l (spLawIsPage K) := by
  have G_is_row_l := ok_is_row_l (P := P) (w := w) (base := base) T
  refine T.F_is_page_l.ok sc_is_page_l (fun vs H Q E h => ?_) (fun cdv Ar outer s H vs Q E hr h => ?_)
  · obtain ⟨v, o, rfl, _⟩ := h
    rfl
  · obtain ⟨v, o, rfl, hk, q⟩ := h
    refine ⟨_, (pss_cons (ps_if (PW.pt (pw_or (pt_not (pt_val (pe_callB (r := rIsi K) call_isi (by rfl) T.z_isinstance (by decide +kernel) (pa_cons (pv 0) (pa_cons (pe_bltn (v := .ty "tuple") (by rfl) T.z_tuple (by decide +kernel) rfl) pa_nil))))) (pw_or (pt_cmpR op_lt (pe_callB (r := fun xs H Q => ∃ p ys, xs = [.ref p] ∧ (SqL K H p ys ∨ SqT K H p ys) ∧ Q (.int ys.length) H) call_len_seq (by rfl) T.z_len PySem.boot_len (pa_cons (pv 0) pa_nil)) pe_int (nomark _)) (pw_or1 (pt_cmpR op_gt (pe_callB (r := fun xs H Q => ∃ p ys, xs = [.ref p] ∧ (SqL K H p ys ∨ SqT K H p ys) ∧ Q (.int ys.length) H) call_len_seq (by rfl) T.z_len PySem.boot_len (pa_cons (pv 0) pa_nil)) pe_int (nomark _))))))
      (pss_one (ps_ret pe_bl)) pss_nil)
      (pss_cons (ps_for PassesOwn.never rfl (pi_tup (pv 0)) (pg_name (i := 1) sc_is_page_l.nd rfl (Or.inl rfl))
      (pss_one (ps_if (PW.pt (pw_or (pt_not (pt_val (pe_call G_is_row_l (hr.mono (by decide)) (by rfl) T.g_is_row_l T.F_is_row_l.kp T.b_is_row_l .nil pass0 (pa_cons (pv 1) pa_nil)))) (pw_or1 (pt_cmpR op_ne (pe_callB call_len_str (by rfl) T.z_len PySem.boot_len (pa_cons (pv 1) pa_nil)) (pe_callB call_len_str (by rfl) T.z_len PySem.boot_len (pa_cons (pe_ix (r := rIxT K) ix_tup (pv 0) pe_int (fun _ _ => rfl)) pa_nil)) (nomark _)))))
      (pss_one (ps_ret pe_bl)) pss_nil)))
      (pss_one (ps_ret pe_bl)))), ?_⟩
    cases o with
    | none =>
      obtain ⟨t, ht, hm⟩ := hk
      refine ⟨_, rfl, _, _, _, _, false, rfl, ClsV.ty _, TyX.base ht, isT_no hm, _, rfl, ?_⟩
      exact q
    | some ks =>
      obtain ⟨a, xs, rfl, ha, lx, hp⟩ := hk
      have ln : xs.length = ks.length := Paired.length hp
      rw [isPageO_some] at q
      refine ⟨_, rfl, _, _, _, _, true, rfl, ClsV.ty _, TyX.base (.tup ha), isT_yes, _, rfl, ?_⟩
      refine ⟨_, rfl, _, _, rfl, .inr (.inl (.inl ha)), _, _, rfl, rfl, _, rfl, ite2 (fun e => ?_) (fun e => ?_)⟩
      · have e1 : ¬ 1 ≤ ks.length := by
          have := of_decide_eq_true e
          omega
        rw [decide_eq_false e1, Bool.false_and, Bool.false_and, Bool.false_and] at q
        exact q
      · have e1 : 1 ≤ ks.length := Nat.not_lt.mp fun n => e (decide_eq_true (by omega))
        refine ⟨_, rfl, _, _, rfl, .inr (.inl (.inl ha)), _, _, rfl, rfl, _, rfl, ite2 (fun e2 => ?_) (fun e2 => ?_)⟩
        · have h24 : ¬ ks.length ≤ 24 := by
            have := of_decide_eq_true e2
            omega
          rw [decide_eq_false h24, Bool.and_false, Bool.false_and, Bool.false_and] at q
          exact q
        · have h24 : ks.length ≤ 24 := Nat.not_lt.mp fun n => e2 (decide_eq_true (by omega))
          rw [decide_eq_true e1, decide_eq_true h24, Bool.true_and, Bool.true_and] at q
          refine ⟨_, rfl, a, rfl, ⟨_, .inl (.inl ha)⟩, for_tup (K := K) (a := a) (xs := xs) (fun i σ H' => ∃ y1, σ = [some (.ref a), y1] ∧ H' = H ∧ ∀ k ∈ ks.take i, isRowK k = true ∧ kLen k = len0 ks) ⟨none, rfl, rfl, fun k h => by simp at h⟩ (fun i σ H' _ ⟨_, _, e, _⟩ => by rw [e]; exact .inl (.inl ha)) ?_ ?_⟩
          · rintro i x σ H1 hx ⟨y1, rfl, rfl, hall⟩
            obtain ⟨k, hk, h1⟩ := pair_get hp hx
            have hi : i < ks.length := (List.getElem?_eq_some_iff.mp hk).1
            have mk := List.mem_of_getElem? hk
            refine ⟨_, rfl, x, k, rfl, h1, _, rfl, ?_⟩
            cases hr : isRowK k with
            | false =>
              have : ks.all isRowK = false := by
                rw [← Bool.not_eq_true]
                intro h3
                rw [List.all_eq_true] at h3
                rw [h3 k mk] at hr
                cases hr
              rw [this, Bool.false_and] at q
              exact q
            | true =>
              obtain ⟨z, rfl, rfl, lz⟩ := txt_of h1 hr
              obtain ⟨x0, xr, rfl⟩ : ∃ x0 xr, xs = x0 :: xr := by
                cases xs with
                | nil => cases hx
                | cons x r => exact ⟨x, r, rfl⟩
              obtain ⟨k0, hk0, h10⟩ := pair_get hp (i := 0) rfl
              have r0 : isRowK k0 = true := by
                cases i with
                | zero =>
                  have := Option.some.inj (hk0.symm.trans hk)
                  rw [this]
                  exact hr
                | succ j =>
                  refine (hall k0 ?_).1
                  cases ks with
                  | nil => cases hk0
                  | cons k r =>
                    have := Option.some.inj hk0
                    subst this
                    exact List.mem_cons_self ..
              obtain ⟨z0, rfl, rfl, lz0⟩ := txt_of h10 r0
              have l0 : len0 ks = z0.length := by
                cases ks with
                | nil => cases hk0
                | cons k r =>
                  have := Option.some.inj hk0
                  subst this
                  rfl
              refine ⟨_, rfl, _, rfl, sz lz, _, rfl, _, _, _, .str z0, rfl, rfl, .inl (.inl ha), atI_nat (j := 0) rfl, _, rfl, sz lz0, rfl, _, rfl, ?_⟩
              by_cases el : z.length = z0.length
              · have ed : decide (V.int (z.length : Int) = V.int (z0.length : Int)) = true := decide_eq_true (by rw [el])
                rw [ed]
                refine ⟨_, rfl, rfl, fun k hk2 => ?_⟩
                rw [take_more ks i _ hk] at hk2
                rcases List.mem_append.mp hk2 with h | h
                · exact hall k h
                · rw [List.mem_singleton.mp h]
                  exact ⟨hr, by rw [l0]; exact el⟩
              · have ed : decide (V.int (z.length : Int) = V.int (z0.length : Int)) = false := decide_eq_false fun h => el (by have := V.int.inj h; omega)
                rw [ed]
                have : (ks.all fun k => decide (kLen k = len0 ks)) = false := by
                  rw [← Bool.not_eq_true]
                  intro h3
                  rw [List.all_eq_true] at h3
                  have := of_decide_eq_true (h3 _ mk)
                  rw [l0] at this
                  exact el this
                rw [this, Bool.and_false] at q
                exact q
          · rintro σ H1 ⟨y1, rfl, rfl, hall⟩
            rw [List.take_of_length_le (by omega)] at hall
            have h1 : ks.all isRowK = true := List.all_eq_true.mpr fun k hk => (hall k hk).1
            have h2 : (ks.all fun k => decide (kLen k = len0 ks)) = true := List.all_eq_true.mpr fun k hk => decide_eq_true (hall k hk).2
            rw [h1, h2] at q
            exact q

def spSigns : Sp := fun vs H Q _ => vs = [] ∧ ∀ z : Str, z.length = 94 → Q (.str z) H
theorem ok_signs {A : Ad} (T : Txt w K mg base A) : FnOk P w K mg base CX0 1 A.a_signs A.d_signs P_signs spSigns := by
  refine T.F_signs.ok sc_signs (fun vs H Q E h => ?_) (fun cdv Ar outer s H vs Q E hr h => ?_)
  · obtain ⟨rfl, _⟩ := h
    rfl
  · obtain ⟨rfl, q⟩ := h
    refine ⟨_, (pss_one (ps_ret (pe_op op_add_str pe_str pe_str))), ?_⟩
    refine ⟨_, _, rfl, rfl, ?_, ?_⟩
    · decide +kernel
    · exact q _ (by decide +kernel)
def spOdd : Sp := fun vs H Q _ => ∃ b : Addr, vs = [.ref b] ∧ BagAt H b ∧ ∀ v H', Tg b H' v → (∀ z, v = .str z → z.length ≤ 8) → Bx b H H' → Q v H'
theorem pick_at {xs : List V} {j : Int} (j0 : 0 ≤ j) (j1 : j < (xs.length : Int)) : ∃ v, atI xs j = some v ∧ v ∈ xs := by
  obtain ⟨k, rfl⟩ := Int.eq_ofNat_of_zero_le j0
  have hk : k < xs.length := by omega
  exact ⟨xs[k], atI_nat (List.getElem?_eq_getElem hk), List.getElem_mem hk⟩
theorem pick_sign {z : Str} {j : Int} (j0 : 0 ≤ j) (j1 : j < (z.length : Int)) : ∃ c, atI z.cps.toList j = some c := by
  obtain ⟨k, rfl⟩ := Int.eq_ofNat_of_zero_le j0
  have hk : k < z.cps.toList.length := by
    rw [Array.length_toList]
    show k < z.length
    omega
  exact ⟨z.cps.toList[k], atI_nat (List.getElem?_eq_getElem hk)⟩
theorem ok_odd {A : Ad} (T : Txt w K mg base A) : FnOk P w K mg base CX0 2 A.a_odd A.d_odd P_odd spOdd := by
  have G_draw := ok_draw (P := P) (w := w) (base := base) T
  refine T.F_odd.ok sc_odd (fun vs H Q E h => ?_) (fun cdv Ar outer s H vs Q E hr h => ?_)
  · obtain ⟨b, rfl, _⟩ := h
    rfl
  · obtain ⟨b, rfl, hb, q⟩ := h
    refine ⟨_, (pss_cons (ps_set (i := 1) sc_odd.nd rfl (Or.inl rfl) (pe_lstW (pa_cons pe_non (pa_cons pe_bl (pa_cons pe_bl (pa_cons pe_int (pa_cons pe_int (pa_cons (pe_un un_neg pe_int) (pa_cons (pe_op op_pow pe_int pe_int) (pa_cons pe_str (pa_cons pe_str (pa_cons pe_str (pa_cons pe_str (pa_cons (pe_tupW pa_nil) (pa_cons (pe_lstW pa_nil) (pa_cons (pe_lstW (pa_cons pe_str pa_nil)) (pa_cons (pe_tupW (pa_cons pe_str (pa_cons pe_int pa_nil))) (pa_cons (pe_tupW (pa_cons pe_non pa_nil)) pa_nil))))))))))))))))))
      (pss_one (ps_ret (pe_ix (r := rIxL K) ix_list (pv 1) (pe_call G_draw (hr.mono (by decide)) (by rfl) T.g_draw T.F_draw.kp T.b_draw .nil pass0 (pa_cons (pv 0) (pa_cons pe_int pa_nil))) (fun _ _ => rfl))))), ?_⟩
    refine ⟨_, rfl, _, _, rfl, rfl, ⟨by decide, by decide, by decide⟩, (by show 0 ≤ 100000; decide), fun p1 H1 n1 s1 e1 => ⟨(by show 0 ≤ 100000; decide), fun p2 H2 n2 s2 e2 => ⟨(by show 1 ≤ 100000; decide), fun p3 H3 n3 s3 e3 => ⟨(by show 2 ≤ 100000; decide), fun p4 H4 n4 s4 e4 => ⟨(by show 1 ≤ 100000; decide), fun p5 H5 n5 s5 e5 => ⟨(by show 16 ≤ 100000; decide), fun p H6 n6 s6 e6 => ?_⟩⟩⟩⟩⟩⟩
    have b1 : Bx b H H1 := (Bx.refl hb).same s1
    have b2 := b1.same s2
    have b3 := b2.same s3
    have b4 := b3.same s4
    have b5 := b4.same s5
    have b6 := b5.same s6
    have np : p ≠ b := BagAt.ne b5.1 n6
    refine ⟨_, rfl, _, rfl, b, 16, rfl, b6.1, by decide, by decide, fun j H7 j0 j1 bx7 => ?_⟩
    obtain ⟨v, hv, mv⟩ := pick_at (xs := [.non, .bl true, .bl false, .int 0, .int 8, .int (-1), .int (10 ^ (29 : Int).toNat), .str (Str.ofString ""), .str (Str.ofString "."), .str (Str.ofString "#"), .str (Str.ofString "1"), .ref p1, .ref p2, .ref p3, .ref p4, .ref p5]) j0 (by show j < 16; exact j1)
    refine ⟨_, _, _, v, rfl, rfl, SqL.of (bx7.2 _ _ np e6), hv, ?_⟩
    have sl : ∀ z, v = .str z → z.length ≤ 8 := by
      intro z e
      simp only [List.mem_cons, List.not_mem_nil, or_false] at mv
      rcases mv with rfl | rfl | rfl | rfl | rfl | rfl | rfl | rfl | rfl | rfl | rfl | rfl | rfl | rfl | rfl | rfl <;> cases e <;> decide +kernel
    refine q v H7 (Tg.bx (H := H6) ?_ b6.1 bx7) sl (b6.trans bx7)
    have f1 := s6 _ _ (s5 _ _ (s4 _ _ (s3 _ _ (s2 _ _ e1))))
    have f2 := s6 _ _ (s5 _ _ (s4 _ _ (s3 _ _ e2)))
    have f3 := s6 _ _ (s5 _ _ (s4 _ _ e3))
    have f4 := s6 _ _ (s5 _ _ e4)
    have f5 := s6 _ _ e5
    have flat : ∀ {v : V}, Flat v → Tg b H6 v := fun h => .inl h
    simp only [List.mem_cons, List.not_mem_nil, or_false] at mv
    rcases mv with rfl | rfl | rfl | rfl | rfl | rfl | rfl | rfl | rfl | rfl | rfl | rfl | rfl | rfl | rfl | rfl
    · exact flat (.inl rfl)
    · exact flat (.inr (.inl ⟨_, rfl⟩))
    · exact flat (.inr (.inl ⟨_, rfl⟩))
    · exact flat (.inr (.inr (.inl ⟨_, rfl⟩)))
    · exact flat (.inr (.inr (.inl ⟨_, rfl⟩)))
    · exact flat (.inr (.inr (.inl ⟨_, rfl⟩)))
    · exact flat (.inr (.inr (.inl ⟨_, rfl⟩)))
    · exact Tg.str (by decide +kernel)
    · exact Tg.str (by decide +kernel)
    · exact Tg.str (by decide +kernel)
    · exact Tg.str (by decide +kernel)
    · exact .inr (.inr ⟨p1, _, rfl, f1, (by show 0 ≤ 1000; decide), fun u hu => nomatch hu⟩)
    · exact .inr (.inl ⟨p2, _, rfl, BagAt.ne b1.1 n2, f2⟩)
    · exact .inr (.inl ⟨p3, _, rfl, BagAt.ne b2.1 n3, f3⟩)
    · refine .inr (.inr ⟨p4, _, rfl, f4, (by show 2 ≤ 1000; decide), fun u hu => ?_⟩)
      simp only [List.mem_cons, List.not_mem_nil, or_false] at hu
      rcases hu with rfl | rfl
      · exact It.str (by decide +kernel)
      · exact .inl (.inr (.inr (.inl ⟨_, rfl⟩)))
    · refine .inr (.inr ⟨p5, _, rfl, f5, (by show 1 ≤ 1000; decide), fun u hu => ?_⟩)
      rw [List.mem_singleton.mp hu]
      exact .inl (.inl rfl)

--SPLIT
def spShow (K : PySem.W.Frag) : Sp := fun vs H Q _ => ∃ (a : Addr) (rows : List (List Nat)), vs = [.ref a] ∧ H a = some (.tup (rows.map sV)) ∧ rows.length ≤ 100 ∧ (∀ r ∈ rows, r.length ≤ 100) ∧ Q (.str (sOf (joinL 47 rows))) H
theorem ok_show_page {A : Ad} (T : Txt w K mg base A) : FnOk P w K mg base CX0 1 A.a_show_page A.d_show_page P_show_page (spShow K) := by
  refine T.F_show_page.ok sc_show_page (fun vs H Q E h => ?_) (fun cdv Ar outer s H vs Q E hr h => ?_)
  · obtain ⟨a, rows, rfl, _⟩ := h
    rfl
  · obtain ⟨a, rows, rfl, ha, lr, lc, q⟩ := h
    refine ⟨_, (pss_one (ps_ret (pe_join pe_str (pv 0)))), ?_⟩
    have e1 : rows.map sV = (rows.map sOf).map V.str := by
      rw [List.map_map]
      rfl
    refine ⟨⟨_, rfl⟩, _, rfl, _, _, rows.map sOf, rfl, rfl, .inr (.inl (.inl (by rw [← e1]; exact ha))), ?_, ?_⟩
    · rw [List.map_map, List.length_map]
      have k : ∀ l : List (List Nat), (∀ r ∈ l, r.length ≤ 100) → (l.map ((fun z : Str => z.length) ∘ sOf)).sum ≤ 100 * l.length := by
        intro l
        induction l with
        | nil => intro _; exact Nat.zero_le _
        | cons r t ih =>
          intro h
          have h1 := h r (List.mem_cons_self ..)
          have h2 := ih fun x hx => h x (List.mem_cons_of_mem _ hx)
          rw [List.map_cons, List.sum_cons, List.length_cons]
          show (sOf r).length + _ ≤ _
          rw [sOf_len]
          omega
      have := k rows lc
      show _ + rows.length * 1 ≤ 16777216
      omega
    · rw [show (Str.ofString "/") = sOf [47] from rfl, join_is]
      exact q
def spOnly (D : Addr) : Addr → Value → Option Addr → Sp := fun a cls d vs H Q _ => cls = .ref D ∧ d = none ∧ vs = [.ref a, .int 0] ∧ ∀ H', Same H H' → Q (.bl true) H'
theorem dp_bls {H : Hp} : ∀ bs : List Bool, DpAll K H (bs.map V.bl) (bs.map PyData.bool)
  | [] => .nil
  | b :: r => .cons (.bl b) (dp_bls r)
theorem ok_only {A : Ad} (T : Txt w K mg base A) : FnP P w K mg base 1 A.a_only A.d_only P_only (spOnly A.x_NoPage) := by
  refine fnP_of T.F_only sc_only (fun a cls d vs H Q E h => ?_) (fun cdv Ar outer s H vs Q p cls d hot hz hr h => ?_)
  · obtain ⟨_, _, rfl, _⟩ := h
    rfl
  · obtain ⟨rfl, rfl, rfl, q⟩ := h
    have hf : ∃ vs, p.2.data = .fields vs := hot.2.elim fun vs e => ⟨vs, e.1⟩
    have hc : HotC (cxH CX0 P w K mg base N_only (Str.ofString "_law_only") (defScope s_only) A.a_only cdv Ar outer s H E0 p) := ⟨p, ⟨hot.1, hot.2⟩, List.mem_singleton.mpr rfl⟩
    refine ⟨_, (pss_cons (ps_set (i := 2) sc_only.nd rfl (Or.inl rfl) (pe_lst (pa_cons (pe_callB (r := rIsE K A.x_NoPage p.1) (call_isPin (X := cxH CX0 P w K mg base N_only (Str.ofString "_law_only") (defScope s_only) A.a_only cdv Ar outer s H E0 p) T.xe (List.mem_singleton.mpr rfl) hz hf) (by rfl) T.z_isinstance (by decide +kernel) (pa_cons (pv 0) (pa_cons (pe_glob (v := .ref A.x_NoPage) (by rfl) T.xg_NoPage rfl) pa_nil))) (pa_cons (pe_callB (r := rIsE K A.x_NoPage p.1) (call_isPin (X := cxH CX0 P w K mg base N_only (Str.ofString "_law_only") (defScope s_only) A.a_only cdv Ar outer s H E0 p) T.xe (List.mem_singleton.mpr rfl) hz hf) (by rfl) T.z_isinstance (by decide +kernel) (pa_cons (pv 0) (pa_cons (pe_glob (v := .ref A.x_NoWords) (by rfl) T.xg_NoWords rfl) pa_nil))) (pa_cons (pe_callB (r := rIsE K A.x_NoPage p.1) (call_isPin (X := cxH CX0 P w K mg base N_only (Str.ofString "_law_only") (defScope s_only) A.a_only cdv Ar outer s H E0 p) T.xe (List.mem_singleton.mpr rfl) hz hf) (by rfl) T.z_isinstance (by decide +kernel) (pa_cons (pv 0) (pa_cons (pe_glob (v := .ref A.x_NoTelling) (by rfl) T.xg_NoTelling rfl) pa_nil))) (pa_cons (pe_callB (r := rIsE K A.x_NoPage p.1) (call_isPin (X := cxH CX0 P w K mg base N_only (Str.ofString "_law_only") (defScope s_only) A.a_only cdv Ar outer s H E0 p) T.xe (List.mem_singleton.mpr rfl) hz hf) (by rfl) T.z_isinstance (by decide +kernel) (pa_cons (pv 0) (pa_cons (pe_glob (v := .ref A.x_NoFrame) (by rfl) T.xg_NoFrame rfl) pa_nil))) pa_nil))))))
      (pss_cons (ps_set (i := 2) sc_only.nd rfl (Or.inl rfl) (pe_op op_cat (pv 2) (pe_lst (pa_cons (pe_callB (r := rIsE K A.x_NoPage p.1) (call_isPin (X := cxH CX0 P w K mg base N_only (Str.ofString "_law_only") (defScope s_only) A.a_only cdv Ar outer s H E0 p) T.xe (List.mem_singleton.mpr rfl) hz hf) (by rfl) T.z_isinstance (by decide +kernel) (pa_cons (pv 0) (pa_cons (pe_glob (v := .ref A.x_NoPiece) (by rfl) T.xg_NoPiece rfl) pa_nil))) (pa_cons (pe_callB (r := rIsE K A.x_NoPage p.1) (call_isPin (X := cxH CX0 P w K mg base N_only (Str.ofString "_law_only") (defScope s_only) A.a_only cdv Ar outer s H E0 p) T.xe (List.mem_singleton.mpr rfl) hz hf) (by rfl) T.z_isinstance (by decide +kernel) (pa_cons (pv 0) (pa_cons (pe_glob (v := .ref A.x_NoName) (by rfl) T.xg_NoName rfl) pa_nil))) (pa_cons (pe_callB (r := rIsE K A.x_NoPage p.1) (call_isPin (X := cxH CX0 P w K mg base N_only (Str.ofString "_law_only") (defScope s_only) A.a_only cdv Ar outer s H E0 p) T.xe (List.mem_singleton.mpr rfl) hz hf) (by rfl) T.z_isinstance (by decide +kernel) (pa_cons (pv 0) (pa_cons (pe_glob (v := .ref A.x_NoEnds) (by rfl) T.xg_NoEnds rfl) pa_nil))) (pa_cons (pe_callB (r := rIsE K A.x_NoPage p.1) (call_isPin (X := cxH CX0 P w K mg base N_only (Str.ofString "_law_only") (defScope s_only) A.a_only cdv Ar outer s H E0 p) T.xe (List.mem_singleton.mpr rfl) hz hf) (by rfl) T.z_isinstance (by decide +kernel) (pa_cons (pv 0) (pa_cons (pe_glob (v := .ref A.x_NoCall) (by rfl) T.xg_NoCall rfl) pa_nil))) pa_nil)))))))
      (pss_cons (ps_set (i := 2) sc_only.nd rfl (Or.inl rfl) (pe_op op_cat (pv 2) (pe_lst (pa_cons (pe_callB (r := rIsE K A.x_NoPage p.1) (call_isPin (X := cxH CX0 P w K mg base N_only (Str.ofString "_law_only") (defScope s_only) A.a_only cdv Ar outer s H E0 p) T.xe (List.mem_singleton.mpr rfl) hz hf) (by rfl) T.z_isinstance (by decide +kernel) (pa_cons (pv 0) (pa_cons (pe_glob (v := .ref A.x_NoSaying) (by rfl) T.xg_NoSaying rfl) pa_nil))) pa_nil))))
      (pss_one (ps_ret (pe_and (pe_callB (r := rIsE K A.x_NoPage p.1) (call_isPin (X := cxH CX0 P w K mg base N_only (Str.ofString "_law_only") (defScope s_only) A.a_only cdv Ar outer s H E0 p) T.xe (List.mem_singleton.mpr rfl) hz hf) (by rfl) T.z_isinstance (by decide +kernel) (pa_cons (pv 0) (pa_cons (pe_glob (v := .ref A.x_FarError) (by rfl) T.xg_FarError rfl) pa_nil))) (pe_and (pe_callB (r := rIsE K A.x_NoPage p.1) (call_isPin (X := cxH CX0 P w K mg base N_only (Str.ofString "_law_only") (defScope s_only) A.a_only cdv Ar outer s H E0 p) T.xe (List.mem_singleton.mpr rfl) hz hf) (by rfl) T.z_isinstance (by decide +kernel) (pa_cons (pv 0) (pa_cons (pe_bltn (v := .ty "ValueError") (by rfl) T.z_ValueError (by decide +kernel) rfl) pa_nil))) (pe_one (pe_cmpR (op_eqD hr.units) (pv 2) (pe_lcHot (own := [("_law_k", 3)]) (g := gName 3) hc sc_only.nd (pi_range1H (by rfl) T.z_range (pa_cons pe_int pa_nil)) (blkOk_by (own := [("_law_k", 3)]) (N := N_only) (sc := defScope s_only) (by decide +kernel)) (fun _ _ _ _ _ => pg_name (i := 3) sc_only.nd rfl (Or.inl rfl)) (fun _ _ _ _ _ => (pe_cmpR op_eq (pv 1) (pv 3) (nomark _)))) (nomark _)))))))))), ?_⟩
    refine ⟨_, rfl, _, .ref _, true, rfl, (fun u h => h), T.ki_NoPage, _, rfl, _, .ref _, false, rfl, (fun u h => h), T.ki_NoWords, _, rfl, _, .ref _, false, rfl, (fun u h => h), T.ki_NoTelling, _, rfl, _, .ref _, false, rfl, (fun u h => h), T.ki_NoFrame, (by show 4 ≤ sizeLine; decide), fun p1 hp1 => ?_⟩
    refine ⟨_, rfl, _, rfl, _, .ref _, false, rfl, (fun u h => h), T.ki_NoPiece, _, rfl, _, .ref _, false, rfl, (fun u h => h), T.ki_NoName, _, rfl, _, .ref _, false, rfl, (fun u h => h), T.ki_NoEnds, _, rfl, _, .ref _, false, rfl, (fun u h => h), T.ki_NoCall, (by show 4 ≤ sizeLine; decide), fun p2 hp2 => ?_⟩
    refine ⟨_, _, _, _, rfl, rfl, (by rw [upd_ne (ne_of_none upd_same hp2)]; exact upd_same), upd_same, (by show 8 ≤ sizeLine; decide), fun p3 hp3 => ?_⟩
    refine ⟨_, rfl, _, rfl, _, .ref _, false, rfl, (fun u h => h), T.ki_NoSaying, (by show 1 ≤ sizeLine; decide), fun p4 hp4 => ?_⟩
    refine ⟨_, _, _, _, rfl, rfl, (by rw [upd_ne (ne_of_none upd_same hp4)]; exact upd_same), upd_same, (by show 9 ≤ sizeLine; decide), fun p5 hp5 => ?_⟩
    refine ⟨_, rfl, _, .ref _, true, rfl, (fun u h => h), T.ki_FarError, _, rfl, ?_⟩
    refine ⟨_, rfl, _, .type "ValueError", true, rfl, (fun u h => h), T.kv, _, rfl, ?_⟩
    have sA : Same H _ := ((((same_new (o := .lst [.bl true, .bl false, .bl false, .bl false]) hp1).trans (same_new (o := .lst [.bl false, .bl false, .bl false, .bl false]) hp2)).trans (same_new (o := .lst [.bl true, .bl false, .bl false, .bl false, .bl false, .bl false, .bl false, .bl false]) hp3)).trans (same_new (o := .lst [.bl false]) hp4)).trans (same_new (o := .lst [.bl true, .bl false, .bl false, .bl false, .bl false, .bl false, .bl false, .bl false, .bl false]) hp5)
    refine ⟨_, rfl, _, rfl, by decide, by decide, fun D hD => lc_range (lo := 0) (n := 9) (fun i H' => Same (upd _ p5 _) H' ∧ H' D = some (.lst ((List.range i).map fun (k : Nat) => V.bl (decide (k = 0))))) ⟨same_new hD, upd_same⟩ ?_ ?_⟩
    · rintro i H1 hi ⟨sm, hD1⟩
      refine ⟨rfl, _, rfl, _, rfl, rfl, _, hD1, ?_, Same.mut sm hD, ?_⟩
      · rw [List.length_map, List.length_range]
        exact szl (by omega)
      · rw [upd_same, range_more]
        have e : decide (V.int 0 = V.int (0 + (i : Int))) = decide (i = 0) := decide_eq_decide.mpr ⟨fun h => by have := V.int.inj h; omega, fun h => by rw [h]; rfl⟩
        rw [e]
    · rintro H1 ⟨sm, hD1⟩
      refine ⟨_, _, .lst (SqL.of (sm _ _ upd_same)) (dp_bls [true, false, false, false, false, false, false, false, false]), .lst (SqL.of hD1) (dp_bls [true, false, false, false, false, false, false, false, false]), (by decide +kernel), (by decide +kernel), ?_⟩
      rw [show PyData.eqv (.list ([true, false, false, false, false, false, false, false, false].map PyData.bool)) (.list ([true, false, false, false, false, false, false, false, false].map PyData.bool)) = true by decide +kernel]
      exact q H1 (sA.trans sm)
def ksOf (rows : List (List Nat)) : List Kd := rows.map fun r => Kd.txt (sOf r)
theorem sp_len (d : Nat) : ∀ (l : List Nat) (a : List (List Nat)) (b : List Nat), (rowsOf (l.foldl (spStep d) (a, b))).length ≤ a.length + l.length + 1 ∧ ∀ r ∈ rowsOf (l.foldl (spStep d) (a, b)), r ∈ a ∨ r.length ≤ b.length + l.length
  | [], a, b => ⟨by show (a ++ [b]).length ≤ _; rw [List.length_append]; simp, fun r hr => by
    rcases List.mem_append.mp hr with z | z
    · exact .inl z
    · rw [List.mem_singleton.mp z]
      exact .inr (Nat.le_refl _)⟩
  | c :: t, a, b => by
    rw [List.foldl_cons]
    by_cases e : c = d
    · rw [show spStep d (a, b) c = (a ++ [b], []) from if_pos e]
      obtain ⟨h1, h2⟩ := sp_len d t (a ++ [b]) []
      rw [List.length_append] at h1
      have h1 : _ ≤ a.length + 1 + t.length + 1 := h1
      refine ⟨by rw [List.length_cons]; omega, fun r hr => ?_⟩
      rcases h2 r hr with z | z
      · rcases List.mem_append.mp z with y | y
        · exact .inl y
        · rw [List.mem_singleton.mp y]
          exact .inr (Nat.le_add_right _ _)
      · have z : r.length ≤ 0 + t.length := z
        exact .inr (by rw [List.length_cons]; omega)
    · rw [show spStep d (a, b) c = (a, b ++ [c]) from if_neg e]
      obtain ⟨h1, h2⟩ := sp_len d t a (b ++ [c])
      refine ⟨by rw [List.length_cons]; omega, fun r hr => ?_⟩
      rcases h2 r hr with z | z
      · exact .inl z
      · rw [List.length_append] at z
        have z : r.length ≤ b.length + 1 + t.length := z
        exact .inr (by rw [List.length_cons]; omega)
theorem is_texts {H : Hp} : ∀ rows : List (List Nat), (∀ r ∈ rows, r.length ≤ 100000) → Paired (Is1 K H) (rows.map sV) (ksOf rows)
  | [], _ => .nil
  | r :: t, h => .cons ⟨rfl, by rw [sOf_len]; exact h r (List.mem_cons_self ..)⟩ (is_texts t fun x hx => h x (List.mem_cons_of_mem _ hx))
def spReadP (K : PySem.W.Frag) (C : Addr) : Sp := fun vs H Q E => ∃ (v : V) (k : Kd), vs = [v] ∧ Is1 K H v k ∧
  ((∃ t, k = .oth t) → ∀ H', Same H H' → E (.ref C) none H') ∧
  (∀ z, k = .txt z → z.length ≤ 40000 ∧ (isPageK (ksOf (splitL 47 z.cps.toList)) = false → ∀ H', Same H H' → E (.ref C) none H') ∧
    (isPageK (ksOf (splitL 47 z.cps.toList)) = true → ∀ p H', Same H H' → H' p = some (.tup ((splitL 47 z.cps.toList).map sV)) → Q (.ref p) H'))
theorem ok_read_page {A : Ad} (T : Txt w K mg base A) : FnOk P w K mg base (L2N.CX P w) 3 A.a_read_page A.d_read_page P_read_page (spReadP K A.x_NoPage) := by
  have G_is_page := ok_is_page (P := P) (w := w) (base := base) T
  refine Fp.okXN T.F_read_page sc_read_page (fun vs H Q E h => ?_) (fun cdv Ar outer s H vs Q E hr h => ?_)
  · obtain ⟨v, k, rfl, _⟩ := h
    rfl
  · obtain ⟨v, k, rfl, hk, q0, q1⟩ := h
    refine ⟨_, (pss_cons (ps_if (pt_not (pt_val (pe_callB (r := rIsi K) call_isi (by rfl) T.z_isinstance (by decide +kernel) (pa_cons (pv 0) (pa_cons (pe_bltn (v := .ty "str") (by rfl) T.z_str (by decide +kernel) rfl) pa_nil)))))
      (pss_one (L2N.ps_raise rfl (L2N.takes_of rfl rfl rfl rfl) (L2N.pmk_own PySem.F.excBase_ValueError T.xq_NoPage T.xg_NoPage T.xk_NoPage (raises_own T.xs_NoPage T.xt_NoPage) (by rfl)))) pss_nil)
      (pss_cons (ps_set (i := 1) sc_read_page.nd rfl (Or.inl rfl) (pe_callTy call_tuple_of (by rfl) T.z_tuple (by decide +kernel) (pa_cons (pe_bm PySem.F.plainAttrs_str PySem.F.slot_str_split PySem.F.type_str_split mt_split (pv 0) (pa_cons pe_str pa_nil)) pa_nil)))
      (pss_cons (ps_if (pt_not (pt_val (pe_call G_is_page (hr.mono (by decide)) (by rfl) T.g_is_page T.F_is_page.kp T.b_is_page .nil pass0 (pa_cons (pv 1) pa_nil))))
      (pss_one (L2N.ps_raise rfl (L2N.takes_of rfl rfl rfl rfl) (L2N.pmk_own PySem.F.excBase_ValueError T.xq_NoPage T.xg_NoPage T.xk_NoPage (raises_own T.xs_NoPage T.xt_NoPage) (by rfl)))) pss_nil)
      (pss_one (ps_ret (pv 1)))))), ?_⟩
    cases k with
    | oth t =>
      refine ⟨_, rfl, _, _, _, _, false, rfl, ClsV.ty _, TyX.base hk.1, isS_no hk.2, _, rfl, ?_⟩
      exact q0 ⟨t, rfl⟩ H (Same.refl H)
    | txt z =>
      obtain ⟨rfl, hz⟩ := hk
      obtain ⟨l4, qn, qy⟩ := q1 z rfl
      refine ⟨_, rfl, _, _, _, _, true, rfl, ClsV.ty _, TyX.base (.str _), isS_yes, _, rfl, ?_⟩
      have es : (Txt.split z (Str.ofString "/")).map V.str = (splitL 47 z.cps.toList).map sV := by
        rw [show (Str.ofString "/") = sOf [47] from rfl, split_is, List.map_map]
        rfl
      have zl : z.cps.toList.length = z.length := by rw [Array.length_toList]; rfl
      obtain ⟨n1, n2⟩ := sp_len 47 z.cps.toList [] []
      have n1 : (splitL 47 z.cps.toList).length ≤ 0 + z.cps.toList.length + 1 := n1
      refine ⟨_, rfl, rfl, _, _, rfl, rfl, rfl, sz (by omega), fun p1 hp1 => ?_⟩
      rw [es]
      refine ⟨_, _, rfl, .inl ⟨SqL.of upd_same, fun p2 hp2 => ?_⟩⟩
      have s2 := fun (o : HO) => (same_new (o := .lst ((splitL 47 z.cps.toList).map sV)) hp1).trans (same_new (o := o) hp2)
      refine ⟨_, rfl, _, some (ksOf (splitL 47 z.cps.toList)), rfl, ⟨_, _, rfl, upd_same, by rw [List.length_map]; omega, is_texts _ fun r hr => ?_⟩, fun H3 s3 => ⟨_, rfl, ?_⟩⟩
      · rcases n2 r hr with y | y
        · cases y
        · have y : r.length ≤ 0 + z.cps.toList.length := y
          omega
      · have sA := (s2 _).trans s3
        cases e : isPageK (ksOf (splitL 47 z.cps.toList)) with
        | false =>
          rw [show isPageO (some (ksOf (splitL 47 z.cps.toList))) = false from e]
          exact qn e H3 sA
        | true =>
          rw [show isPageO (some (ksOf (splitL 47 z.cps.toList))) = true from e]
          exact ⟨_, rfl, qy e _ H3 sA (s3 _ _ upd_same)⟩
theorem ixN_last (n : Nat) : ixN (n + 1) (-1) = some n := by
  unfold ixN
  rw [if_neg (by omega), if_pos (by omega)]
  congr 1
  omega
theorem set_last (l : List V) (x y : V) : (l ++ [x]).set l.length y = l ++ [y] := by simp
theorem rows_map (st : List (List Nat) × List Nat) : (rowsOf st).map sV = st.1.map sV ++ [sV st.2] := by
  unfold rowsOf
  rw [List.map_append]
  rfl
theorem slash_eq (c : Nat) : decide (V.str ⟨#[c]⟩ = V.str (Str.ofString "/")) = decide (c = 47) := by
  apply decide_eq_decide.mpr
  exact ⟨fun h => by
    have h2 : sOf [c] = sOf [47] := V.str.inj h
    have := sOf_inj h2
    simp_all, fun h => by rw [h]; rfl⟩
def spShown (K : PySem.W.Frag) : Sp := fun vs H Q _ => ∃ (v : V) (k : Kd), vs = [v] ∧ Is1 K H v k ∧
  ((∃ t, k = .oth t) → ∀ H', Same H H' → Q .non H') ∧
  (∀ z, k = .txt z → z.length ≤ 40000 ∧ (isPageK (ksOf (splitL 47 z.cps.toList)) = false → ∀ H', Same H H' → Q .non H') ∧
    (isPageK (ksOf (splitL 47 z.cps.toList)) = true → ∀ p H', Same H H' → H' p = some (.tup ((splitL 47 z.cps.toList).map sV)) → Q (.ref p) H'))
theorem ok_shown {A : Ad} (T : Txt w K mg base A) : FnOk P w K mg base CX0 3 A.a_shown A.d_shown P_shown (spShown K) := by
  have G_is_page_l := ok_is_page_l (P := P) (w := w) (base := base) T
  refine T.F_shown.ok sc_shown (fun vs H Q E h => ?_) (fun cdv Ar outer s H vs Q E hr h => ?_)
  · obtain ⟨v, k, rfl, _⟩ := h
    rfl
  · obtain ⟨v, k, rfl, hk, q0, q1⟩ := h
    refine ⟨_, (pss_cons (ps_if (pt_not (pt_val (pe_callB (r := rIsi K) call_isi (by rfl) T.z_isinstance (by decide +kernel) (pa_cons (pv 0) (pa_cons (pe_bltn (v := .ty "str") (by rfl) T.z_str (by decide +kernel) rfl) pa_nil)))))
      (pss_one (ps_ret pe_non)) pss_nil)
      (pss_cons (ps_set (i := 1) sc_shown.nd rfl (Or.inl rfl) (pe_lst (pa_cons pe_str pa_nil)))
      (pss_cons (ps_for PassesOwn.never rfl (pi_str (pv 0)) (pg_name (i := 2) sc_shown.nd rfl (Or.inl rfl))
      (pss_one (ps_if (pt_cmpR op_eq (pv 2) pe_str (nomark _))
      (pss_one (ps_expr (pe_bm PySem.F.plainAttrs_list PySem.F.slot_list_append PySem.F.type_list_append mt_append (pv 1) (pa_cons pe_str pa_nil)))) (pss_one (ps_asg (pe_op op_add_str (pe_ix (r := rIxL K) ix_list (pv 1) (pe_un un_neg pe_int) (fun _ _ => rfl)) (pv 2)) (pg_sub (pv 1) (pe_un un_neg pe_int) set_list))))))
      (pss_cons (ps_if (pt_val (pe_call G_is_page_l (hr.mono (by decide)) (by rfl) T.g_is_page_l T.F_is_page_l.kp T.b_is_page_l .nil pass0 (pa_cons (pe_callTy call_tuple_of (by rfl) T.z_tuple (by decide +kernel) (pa_cons (pv 1) pa_nil)) pa_nil)))
      (pss_one (ps_ret (pe_callTy call_tuple_of (by rfl) T.z_tuple (by decide +kernel) (pa_cons (pv 1) pa_nil)))) pss_nil)
      (pss_one (ps_ret pe_non)))))), ?_⟩
    cases k with
    | oth t =>
      refine ⟨_, rfl, _, _, _, _, false, rfl, ClsV.ty _, TyX.base hk.1, isS_no hk.2, _, rfl, ?_⟩
      exact q0 ⟨t, rfl⟩ H (Same.refl H)
    | txt z =>
      obtain ⟨rfl, hz⟩ := hk
      obtain ⟨l4, qn, qy⟩ := q1 z rfl
      refine ⟨_, rfl, _, _, _, _, true, rfl, ClsV.ty _, TyX.base (.str _), isS_yes, _, rfl, ?_⟩
      have zl : z.cps.toList.length = z.length := by rw [Array.length_toList]; rfl
      refine ⟨(by show 1 ≤ sizeLine; decide), fun p1 hp1 => ?_⟩
      refine ⟨_, rfl, _, rfl, for_it (walk_str (z := z)) (fun i σ H' => ∃ y2, σ = [some (.str z), some (.ref p1), y2] ∧ Same H H' ∧ H' p1 = some (.lst ((rowsOf ((z.cps.toList.take i).foldl (spStep 47) ([], []))).map sV))) ⟨none, rfl, same_new hp1, upd_same⟩ (fun _ _ _ _ _ => trivial) ?_ ?_⟩
      · rintro i x σ H1 H2 hi ⟨y2, rfl, sm, h1⟩ ⟨rfl, c, hc, rfl⟩
        have hc' := cps_get hc
        obtain ⟨n1, n2⟩ := sp_len 47 (z.cps.toList.take i) [] []
        rw [List.length_take] at n1
        have n1 : _ ≤ 0 + min i z.cps.toList.length + 1 := n1
        generalize hst : (z.cps.toList.take i).foldl (spStep 47) ([], []) = st at *
        have nx : (z.cps.toList.take (i + 1)).foldl (spStep 47) ([], []) = spStep 47 st c := by
          rw [take_more z.cps.toList i c hc', List.foldl_append, hst]
          rfl
        have le2 : st.2.length ≤ 40000 := by
          rcases n2 st.2 (List.mem_append_right _ (List.mem_singleton.mpr rfl)) with y | y
          · cases y
          · rw [List.length_take] at y
            have y : st.2.length ≤ 0 + min i z.cps.toList.length := y
            omega
        refine ⟨_, rfl, rfl, _, rfl, ?_⟩
        rw [slash_eq]
        by_cases e : c = 47
        · rw [decide_eq_true e]
          refine ⟨_, rfl, .inl ⟨rfl, _, SqL.of h1⟩, p1, _, _, rfl, rfl, h1, by rw [List.length_map]; exact szl (by omega), ?_⟩
          refine ⟨_, rfl, Same.mut sm hp1, ?_⟩
          rw [nx, upd_same, show spStep 47 st c = (st.1 ++ [st.2], []) from if_pos e, rows_map (st.1 ++ [st.2], []), rows_map, List.map_append]
          rfl
        · rw [decide_eq_false e]
          rw [rows_map] at h1
          refine ⟨_, rfl, _, rfl, _, _, _, sV st.2, rfl, rfl, SqL.of h1, atI_last _ _, _, rfl, _, _, rfl, rfl, ?_, ?_⟩
          · show (sOf st.2).length + 1 ≤ sizeLine
            rw [sOf_len]
            exact sz (by omega)
          refine ⟨_, rfl, _, rfl, p1, _, _, st.1.length, rfl, rfl, h1, ?_, ?_⟩
          · rw [List.length_append, List.length_map]
            exact ixN_last _
          · refine ⟨_, rfl, Same.mut sm hp1, ?_⟩
            rw [nx, upd_same, show spStep 47 st c = (st.1, st.2 ++ [c]) from if_neg e, rows_map]
            have el : st.1.length = (st.1.map sV).length := (List.length_map ..).symm
            rw [el, set_last]
            show some (HO.lst (st.1.map sV ++ [V.str (sOf st.2 ++ sOf [c])])) = _
            rw [sOf_app]
            rfl
      · rintro σ H1 ⟨y2, rfl, sm, h1⟩
        rw [show z.cps.size = z.cps.toList.length from (Array.length_toList ..).symm, List.take_length] at h1
        have h1 : H1 p1 = some (.lst ((splitL 47 z.cps.toList).map sV)) := h1
        obtain ⟨n1, n2⟩ := sp_len 47 z.cps.toList [] []
        have n1 : (splitL 47 z.cps.toList).length ≤ 0 + z.cps.toList.length + 1 := n1
        refine ⟨_, rfl, _, _, rfl, .inl ⟨SqL.of h1, fun p2 hp2 => ?_⟩⟩
        have s2 : ∀ o : HO, Same H1 (upd H1 p2 o) := fun o => same_new hp2
        refine ⟨_, some (ksOf (splitL 47 z.cps.toList)), rfl, ⟨_, _, rfl, upd_same, by rw [List.length_map]; omega, is_texts _ fun r hr => ?_⟩, _, rfl, ?_⟩
        · rcases n2 r hr with y | y
          · cases y
          · have y : r.length ≤ 0 + z.cps.toList.length := y
            omega
        · cases e : isPageK (ksOf (splitL 47 z.cps.toList)) with
          | false =>
            rw [show isPageO (some (ksOf (splitL 47 z.cps.toList))) = false from e]
            exact qn e _ (sm.trans (s2 _))
          | true =>
            rw [show isPageO (some (ksOf (splitL 47 z.cps.toList))) = true from e]
            refine ⟨_, rfl, _, _, rfl, .inl ⟨SqL.of (s2 _ _ _ h1), fun p3 hp3 => ?_⟩⟩
            exact qy e p3 _ ((sm.trans (s2 _)).trans (same_new hp3)) upd_same
theorem is1_to {H H' : Hp} {v : V} {k : Kd} (e : Same H H') (h : Is1 K H v k) : Is1 K H' v k := by
  cases k with
  | txt z => exact h
  | oth t => exact ⟨tyOf_same e h.1, h.2⟩
theorem page_codes {rows : List (List Nat)} (h : isPageK (ksOf rows) = true) : ∀ r ∈ rows, Codes r := fun r hr => by
  unfold isPageK at h
  rw [Bool.and_eq_true, Bool.and_eq_true] at h
  have h2 := List.all_eq_true.mp h.1.2 (.txt (sOf r)) (List.mem_map.mpr ⟨r, hr, rfl⟩)
  rw [isRowK_txt, Bool.and_eq_true] at h2
  have h3 := List.all_eq_true.mp h2.2
  rw [sOf_list] at h3
  intro c hc
  have := h3 c hc
  unfold okC at this
  rw [Bool.or_eq_true, beq_iff_eq, beq_iff_eq] at this
  rcases this with e | e <;> rw [e] <;> decide
def spLRead (K : PySem.W.Frag) : Sp := fun vs H Q _ => ∃ (v : V) (k : Kd), vs = [v] ∧ Is1 K H v k ∧ (∀ z, k = .txt z → z.length ≤ 40000) ∧ ∀ H', Same H H' → Q (.bl true) H'
theorem ok_lread {A : Ad} (T : Txt w K mg base A) : FnOk P w K mg base CX0 4 A.a_lread A.d_lread P_lread (spLRead K) := by
  have G_shown := ok_shown (P := P) (w := w) (base := base) T
  have G_read_page := ok_read_page (P := P) (w := w) (base := base) T
  have G_only := ok_only (P := P) (w := w) (base := base) T
  refine T.F_lread.ok sc_lread (fun vs H Q E h => ?_) (fun cdv Ar outer s H vs Q E hr h => ?_)
  · obtain ⟨v, k, rfl, _⟩ := h
    rfl
  · obtain ⟨v, k, rfl, hk, l4, q⟩ := h
    refine ⟨_, (pss_cons (ps_set (i := 1) sc_lread.nd rfl (Or.inl rfl) (pe_call G_shown (hr.mono (by decide)) (by rfl) T.g_shown T.F_shown.kp T.b_shown .nil pass0 (pa_cons (pv 0) pa_nil)))
      (pss_cons (L2N.ps_try_as (i := 3) (Wout := fun _ _ _ _ => False) rfl rfl sc_lread.nd rfl rfl ⟨rfl, by decide, Or.inl T.xg_FarError⟩ Fp.takes0N (fun W pn xe tk _ => (pss_one (ps_set (i := 2) sc_lread.nd rfl (Or.inl rfl) (pe_callS G_read_page (hr.mono (by decide)) (by rfl) T.g_read_page T.F_read_page.kp T.b_read_page (fun σ => L2N.passAt tk σ) (pa_cons (pv 0) pa_nil))))) (fun a oe cls d pn hz hf => (pss_one (ps_ret (pe_and (pe_cmpR op_isN (pv 1) pe_non (nomark _)) (pe_one (pe_callE (a := a) (oe := oe) G_only (roomH_mark (j := 1) hr (by decide)) (List.mem_cons_self ..) ⟨rfl, hf.elim fun vs e => ⟨vs, e, hz.2.2 vs e⟩⟩ hz.zc (by rfl) T.g_only T.F_only.kp T.b_only (pa_cons (pv 3) (pa_cons pe_int pa_nil)))))))))
      (pss_one (ps_ret (pe_and (pe_cmpR op_notN (pv 1) pe_non (nomark _)) (pe_and (pe_callB (r := rIsi K) call_isi (by rfl) T.z_isinstance (by decide +kernel) (pa_cons (pv 2) (pa_cons (pe_bltn (v := .ty "tuple") (by rfl) T.z_tuple (by decide +kernel) rfl) pa_nil))) (pe_one (pe_cmpR (op_eqD hr.units) (pv 2) (pv 1) (nomark _))))))))), ?_⟩
    refine ⟨_, rfl, v, k, rfl, hk, (fun ht H1 s1 => ?_), fun z hz => ⟨l4 z hz, fun e H1 s1 => ?_, fun e p H1 s1 hp => ?_⟩⟩
    · refine ⟨_, rfl, v, k, rfl, is1_to s1 hk, (fun _ H2 s2 => ?_), fun z hz => (by obtain ⟨t, ht⟩ := ht; rw [ht] at hz; cases hz)⟩
      refine ⟨true, T.xm_FarError, fun _ e0 he0 => ?_, fun z => nomatch z⟩
      refine ⟨_, rfl, rfl, _, rfl, ?_⟩
      rw [decide_eq_true rfl]
      exact ⟨_, rfl, rfl, rfl, rfl, fun H3 s3 => q H3 ((s1.trans s2).trans s3)⟩
    · refine ⟨_, rfl, v, k, rfl, is1_to s1 hk, (fun ht => (by obtain ⟨t, ht⟩ := ht; rw [ht] at hz; cases hz)), fun z2 hz2 => ⟨l4 z2 hz2, fun e2 H2 s2 => ?_, fun e2 => (by rw [hz] at hz2; cases hz2; rw [e] at e2; cases e2)⟩⟩
      refine ⟨true, T.xm_FarError, fun _ e0 he0 => ?_, fun z => nomatch z⟩
      refine ⟨_, rfl, rfl, _, rfl, ?_⟩
      rw [decide_eq_true rfl]
      exact ⟨_, rfl, rfl, rfl, rfl, fun H3 s3 => q H3 ((s1.trans s2).trans s3)⟩
    · refine ⟨_, rfl, v, k, rfl, is1_to s1 hk, (fun ht => (by obtain ⟨t, ht⟩ := ht; rw [ht] at hz; cases hz)), fun z2 hz2 => ⟨l4 z2 hz2, fun e2 => (by rw [hz] at hz2; cases hz2; rw [e] at e2; cases e2), fun e2 p2 H2 s2 hp2 => ?_⟩⟩
      rw [hz] at hz2
      cases hz2
      have C := page_codes e
      refine ⟨_, rfl, rfl, _, rfl, ?_⟩
      rw [show (!decide (V.ref p = V.non)) = true by rw [decide_eq_false (fun z => by cases z)]; rfl]
      refine ⟨_, rfl, _, _, _, _, true, rfl, ClsV.ty _, TyX.base (.tup hp2), isT_yes, _, rfl, ?_⟩
      refine ⟨_, rfl, _, rfl, _, _, .tup (.inl (.inl hp2)) (dp_rows _), .tup (.inl (.inl (s2 _ _ hp))) (dp_rows _), shaped_tup C, shaped_tup C, ?_⟩
      rw [eqv_tup C]
      exact q H2 (s1.trans s2)
--SPLIT
/-! ### things told -/
theorem cut_le (z : Str) (lo hi : Option Int) (n : Nat) (h : z.length ≤ n) : (cutS z lo hi).length ≤ n := Nat.le_trans (cutS_length z lo hi) h
theorem one_len (c : Nat) : (⟨#[c]⟩ : Str).length = 1 := rfl
theorem sl_len : (Str.ofString "/").length = 1 := by decide +kernel
theorem app_len (x y : Str) : (x ++ y).length = x.length + y.length := by
  show (x.cps ++ y.cps).size = _
  rw [Array.size_append]
  rfl
def Tx (b : Addr) (H : Hp) (v : V) : Prop := Tg b H v ∧ ∀ z, v = .str z → z.length ≤ 40000
theorem Tx.str {b : Addr} {H : Hp} {z : Str} (h : z.length ≤ 40000) : Tx b H (.str z) := ⟨Tg.str (by omega), fun y e => by cases e; exact h⟩
theorem Tx.ref {b a : Addr} {H : Hp} (h : Tg b H (.ref a)) : Tx b H (.ref a) := ⟨h, fun y e => by cases e⟩
theorem tx_nil {b : Addr} {H : Hp} : ∀ u ∈ ([] : List V), Tx b H u := fun _ h => nomatch h
theorem tx_cons {b : Addr} {H : Hp} {x : V} {xs : List V} (h1 : Tx b H x) (h2 : ∀ u ∈ xs, Tx b H u) : ∀ u ∈ x :: xs, Tx b H u := fun u hu => by
  rcases List.mem_cons.mp hu with h | h
  · rw [h]
    exact h1
  · exact h2 u h
theorem tx_app {b : Addr} {H : Hp} {xs zs : List V} (h1 : ∀ u ∈ xs, Tx b H u) (h2 : ∀ u ∈ zs, Tx b H u) : ∀ u ∈ xs ++ zs, Tx b H u := fun u hu => by
  rcases List.mem_append.mp hu with h | h
  · exact h1 u h
  · exact h2 u h
def spThings : Sp := fun vs H Q _ => ∃ (b : Addr) (z : Str), vs = [.ref b, .str z] ∧ BagAt H b ∧ z.length ≤ 2000 ∧
  ∀ p xs H', p ≠ b → H' p = some (.lst xs) → xs.length ≤ 1000 → (∀ v ∈ xs, Tx b H' v) → Bx b H H' → Q (.ref p) H'
theorem ok_things {A : Ad} (T : Txt w K mg base A) : FnOk P w K mg base CX0 3 A.a_things A.d_things P_things spThings := by
  have G_signs := ok_signs (P := P) (w := w) (base := base) T
  have G_draw := ok_draw (P := P) (w := w) (base := base) T
  have G_odd := ok_odd (P := P) (w := w) (base := base) T
  refine T.F_things.ok sc_things (fun vs H Q E h => ?_) (fun cdv Ar outer s H vs Q E hr h => ?_)
  · obtain ⟨b, z, rfl, _⟩ := h
    rfl
  · obtain ⟨b, z, rfl, hb, z1, q⟩ := h
    refine ⟨_, (pss_cons (ps_set (i := 2) sc_things.nd rfl (Or.inl rfl) (pe_call0 G_signs (hr.mono (by decide)) (by rfl) T.g_signs T.F_signs.kp T.b_signs .nil pass0))
      (pss_cons (ps_set (i := 3) sc_things.nd rfl (Or.inl rfl) (pe_call G_draw (hr.mono (by decide)) (by rfl) T.g_draw T.F_draw.kp T.b_draw .nil pass0 (pa_cons (pv 0) (pa_cons (pe_op op_add (pe_callB call_len_str (by rfl) T.z_len PySem.boot_len (pa_cons (pv 1) pa_nil)) pe_int) pa_nil))))
      (pss_cons (ps_set (i := 4) sc_things.nd rfl (Or.inl rfl) (pe_ix ix_str (pv 2) (pe_call G_draw (hr.mono (by decide)) (by rfl) T.g_draw T.F_draw.kp T.b_draw .nil pass0 (pa_cons (pv 0) (pa_cons pe_int pa_nil))) (fun _ _ => rfl)))
      (pss_cons (ps_set (i := 5) sc_things.nd rfl (Or.inl rfl) (pe_lstW (pa_cons (pe_op op_add_str (pe_op op_add_str (pe_slice sl_str (pv 1) po_none (po_some (pv 3))) (pv 4)) (pe_slice sl_str (pv 1) (po_some (pv 3)) po_none)) (pa_cons (pe_op op_add_str (pe_op op_add_str (pe_slice sl_str (pv 1) po_none (po_some (pv 3))) (pv 4)) (pe_slice sl_str (pv 1) (po_some (pe_op op_add (pv 3) pe_int)) po_none)) pa_nil))))
      (pss_cons (ps_expr (pe_bm PySem.F.plainAttrs_list PySem.F.slot_list_append PySem.F.type_list_append mt_append (pv 5) (pa_cons (pe_op op_add_str (pe_slice sl_str (pv 1) po_none (po_some (pv 3))) (pe_slice sl_str (pv 1) (po_some (pe_op op_add (pv 3) pe_int)) po_none)) pa_nil)))
      (pss_cons (ps_set (i := 5) sc_things.nd rfl (Or.inl rfl) (pe_op op_catLW (pv 5) (pe_lstW (pa_cons (pe_op op_add_str pe_str (pv 1)) (pa_cons (pe_op op_add_str (pv 1) pe_str) (pa_cons (pe_op op_add_str (pe_op op_add_str (pe_slice sl_str (pv 1) po_none (po_some (pv 3))) pe_str) (pe_slice sl_str (pv 1) (po_some (pv 3)) po_none)) (pa_cons (pe_op op_add_str (pe_op op_add_str (pe_slice sl_str (pv 1) po_none (po_some (pv 3))) pe_str) (pe_slice sl_str (pv 1) (po_some (pe_op op_add (pv 3) pe_int)) po_none)) pa_nil)))))))
      (pss_cons (ps_set (i := 5) sc_things.nd rfl (Or.inl rfl) (pe_op op_catLW (pv 5) (pe_lstW (pa_cons (pe_slice sl_str (pv 1) po_none (po_some (pv 3))) (pa_cons (pe_slice sl_str (pv 1) (po_some (pv 3)) po_none) (pa_cons (pe_op op_add_str (pv 1) (pv 1)) (pa_cons (pe_op op_add_str (pe_op op_add_str (pv 1) pe_str) (pv 1)) pa_nil)))))))
      (pss_one (ps_ret (pe_op op_catLW (pv 5) (pe_lstW (pa_cons (pe_call G_odd (hr.mono (by decide)) (by rfl) T.g_odd T.F_odd.kp T.b_odd .nil pass0 (pa_cons (pv 0) pa_nil)) (pa_cons (pe_tupW (pa_cons (pv 1) pa_nil)) (pa_cons (pe_callTy (call_tuple_strW rfl) (by rfl) T.z_tuple (by decide +kernel) (pa_cons (pe_slice sl_str (pv 1) po_none (po_some pe_int)) pa_nil)) pa_nil)))))))))))))), ?_⟩
    have hl : z.length ≤ sizeLine := sz (by omega)
    refine ⟨rfl, fun sg lsg => ?_⟩
    have hsg : sg.length ≤ sizeLine := sz (by omega)
    refine ⟨_, rfl, _, rfl, _, rfl, hl, _, _, rfl, rfl, b, _, rfl, hb, by omega, by omega, fun pl H1 a0 a1 bx1 => ?_⟩
    refine ⟨_, rfl, _, rfl, b, 94, rfl, bx1.1, by decide, by decide, fun j H2 j0 j1 bx2 => ?_⟩
    obtain ⟨cc, hcc⟩ := pick_sign (z := sg) j0 (by rw [lsg]; exact j1)
    have c1 := cut_le z none (some pl) 2000 z1
    have c2 := cut_le z (some pl) none 2000 z1
    have c3 := cut_le z (some (pl + 1)) none 2000 z1
    have c4 := cut_le z none (some 200) 2000 z1
    refine ⟨_, _, cc, rfl, rfl, hsg, hcc, ?_⟩
    refine ⟨_, rfl, _, rfl, _, rfl, _, rfl, hl, _, rfl, _, _, rfl, rfl, ?_, _, rfl, _, rfl, _, rfl, _, rfl, hl, _, _, rfl, rfl, ?_, _, rfl, _, rfl, _, rfl, _, rfl, hl, _, rfl, _, _, rfl, rfl, ?_, _, rfl, _, rfl, _, _, rfl, rfl, _, rfl, _, rfl, hl, _, _, rfl, rfl, ?_, (by show 2 ≤ 100000; decide), fun p1 H3 n1 s1 e1 => ?_⟩
    · rw [one_len]
      exact sz (by omega)
    · rw [app_len, one_len]
      exact sz (by omega)
    · rw [one_len]
      exact sz (by omega)
    · rw [app_len, one_len]
      exact sz (by omega)
    have bx3 := (bx1.trans bx2).same s1
    have n1b : p1 ≠ b := BagAt.ne (bx1.trans bx2).1 n1
    have fp1 : H p1 = none := (bx1.trans bx2).free n1
    refine ⟨_, rfl, .inl ⟨rfl, _, SqL.of e1⟩, _, rfl, _, rfl, _, rfl, _, rfl, hl, _, rfl, _, rfl, _, _, rfl, rfl, _, rfl, _, rfl, hl, _, _, rfl, rfl, sz (by omega), p1, _, _, rfl, rfl, e1, (by show 2 < sizeLine; decide), ?_⟩
    have bx4 := bx3.mut (o := .lst ([.str (cutS z none (some pl) ++ ⟨#[cc]⟩ ++ cutS z (some pl) none), .str (cutS z none (some pl) ++ ⟨#[cc]⟩ ++ cutS z (some (pl + 1)) none)] ++ [.str (cutS z none (some pl) ++ cutS z (some (pl + 1)) none)])) fp1 n1b
    refine ⟨_, rfl, _, rfl, _, _, rfl, rfl, ?_, _, rfl, _, _, rfl, rfl, ?_, _, rfl, _, rfl, _, rfl, _, rfl, hl, _, _, rfl, rfl, ?_, _, rfl, _, rfl, _, rfl, _, rfl, hl, _, _, rfl, rfl, ?_, _, rfl, _, rfl, _, rfl, _, rfl, hl, _, _, rfl, rfl, ?_, _, rfl, _, rfl, _, _, rfl, rfl, _, rfl, _, rfl, hl, _, _, rfl, rfl, ?_, (by show 4 ≤ 100000; decide), fun p2 H4 n2 s2 e2 => ⟨_, _, _, _, rfl, rfl, s2 _ _ upd_same, e2, (by show 3 + 4 ≤ 100000; decide), fun p3 H5 n3 s3 e3 => ?_⟩⟩
    · rw [sl_len]
      exact sz (by omega)
    · rw [sl_len]
      exact sz (by omega)
    · rw [sl_len]
      exact sz (by omega)
    · rw [app_len, sl_len]
      exact sz (by omega)
    · rw [sl_len]
      exact sz (by omega)
    · rw [app_len, sl_len]
      exact sz (by omega)
    have bx5 := (bx4.same s2).same s3
    refine ⟨_, rfl, _, rfl, _, rfl, _, rfl, _, rfl, hl, _, rfl, _, rfl, _, rfl, _, rfl, hl, _, rfl, _, rfl, _, _, rfl, rfl, ?_, _, rfl, _, _, rfl, rfl, ?_, _, rfl, _, _, rfl, rfl, ?_, (by show 4 ≤ 100000; decide), fun p4 H6 n4 s4 e4 => ⟨_, _, _, _, rfl, rfl, s4 _ _ e3, e4, (by show 3 + 4 + 4 ≤ 100000; decide), fun p5 H7 n5 s5 e5 => ?_⟩⟩
    · exact sz (by omega)
    · rw [sl_len]
      exact sz (by omega)
    · rw [app_len, sl_len]
      exact sz (by omega)
    have bx7 := (bx5.same s4).same s5
    have n5b : p5 ≠ b := BagAt.ne (bx5.same s4).1 n5
    refine ⟨_, rfl, _, rfl, b, rfl, bx7.1, fun ov H8 hov zov bx8 => ⟨_, rfl, (by show 1 ≤ 100000; decide), fun p6 H9 n6 s6 e6 => ⟨_, rfl, _, rfl, _, rfl, hl, _, rfl, (by omega), fun p7 H10 n7 s7 e7 => ⟨(by show 3 ≤ 100000; decide), fun p8 H11 n8 s8 e8 => ?_⟩⟩⟩⟩
    have s811 : Same H8 H11 := (s6.trans s7).trans s8
    have bx11 : Bx b H7 H11 := bx8.same s811
    refine ⟨_, _, _, _, rfl, rfl, bx11.2 _ _ n5b e5, e8, (by show 3 + 4 + 4 + 3 ≤ 100000; decide), fun p9 H12 n9 s9 e9 => ?_⟩
    have bx12 := (bx7.trans bx11).same s9
    have n9b : p9 ≠ b := BagAt.ne (bx7.trans bx11).1 n9
    refine q p9 _ H12 n9b e9 (by show 3 + 4 + 4 + 3 ≤ 1000; decide) ?_ bx12
    have h6 := s9 _ _ (s8 _ _ (s7 _ _ e6))
    have h7 := s9 _ _ (s8 _ _ e7)
    have hov2 : Tx b H12 ov := ⟨hov.bx bx8.1 (((Bx.refl bx8.1).same s811).same s9), fun y e => by have := zov y e; omega⟩
    refine tx_app (tx_app (tx_app (tx_app (tx_cons (Tx.str ?_) (tx_cons (Tx.str ?_) tx_nil)) (tx_cons (Tx.str ?_) tx_nil)) (tx_cons (Tx.str ?_) (tx_cons (Tx.str ?_) (tx_cons (Tx.str ?_) (tx_cons (Tx.str ?_) tx_nil))))) (tx_cons (Tx.str ?_) (tx_cons (Tx.str ?_) (tx_cons (Tx.str ?_) (tx_cons (Tx.str ?_) tx_nil))))) (tx_cons hov2 (tx_cons (Tx.ref (.inr (.inr ⟨p6, _, rfl, h6, (by show 1 ≤ 1000; decide), fun u hu => ?_⟩))) (tx_cons (Tx.ref (.inr (.inr ⟨p7, _, rfl, h7, ?_, fun u hu => ?_⟩))) tx_nil)))
    · rw [app_len, app_len, one_len]
      omega
    · rw [app_len, app_len, one_len]
      omega
    · rw [app_len]
      omega
    · rw [app_len, sl_len]
      omega
    · rw [app_len, sl_len]
      omega
    · rw [app_len, app_len, sl_len]
      omega
    · rw [app_len, app_len, sl_len]
      omega
    · omega
    · omega
    · rw [app_len]
      omega
    · rw [app_len, app_len, sl_len]
      omega
    · rw [List.mem_singleton.mp hu]
      exact It.str (by omega)
    · rw [cells_len, Array.length_toList]
      show (cutS z none (some 200)).length ≤ 1000
      have : (cutS z none (some 200)).length ≤ 200 := by
        unfold cutS Str.length
        simp only [List.size_toArray, List.length_take]
        have h2 : HT.sIx z.cps.size z.cps.size (some (200 : Int)) = min 200 z.cps.size := HT.sIx_nat z.cps.size z.cps.size 200
        omega
      omega
    · obtain ⟨c, _, rfl⟩ := List.mem_map.mp hu
      exact It.str (by rw [sOf_len]; show 1 ≤ 100000; decide)
--SPLIT
theorem it_is1 {b : Addr} {H : Hp} {v : V} (h : It b H v) : ∃ k, Is1 K H v k := by
  rcases h with (rfl | ⟨x, rfl⟩ | ⟨i, rfl⟩ | ⟨z, rfl, l⟩) | ⟨a, xs, rfl, n, e⟩ | ⟨a, xs, rfl, e⟩
  · exact ⟨.oth "NoneType", .non, by decide⟩
  · exact ⟨.oth "bool", .bl x, by decide⟩
  · exact ⟨.oth "int", .int i, by decide⟩
  · exact ⟨.txt z, rfl, l⟩
  · exact ⟨.oth "list", .lst e, by decide⟩
  · exact ⟨.oth "tuple", .tup e, by decide⟩
theorem joinL_snoc (d : Nat) : ∀ (ls : List (List Nat)) (r : List Nat), ls ≠ [] → joinL d (ls ++ [r]) = joinL d ls ++ [d] ++ r
  | [], _, h => absurd rfl h
  | [p], r, _ => by
    show p ++ d :: r = p ++ [d] ++ r
    rw [List.append_assoc]
    rfl
  | p :: q :: t, r, _ => by
    have ih := joinL_snoc d (q :: t) r (by simp)
    show p ++ d :: joinL d (q :: t ++ [r]) = (p ++ d :: joinL d (q :: t)) ++ [d] ++ r
    rw [ih]
    simp [List.append_assoc]
theorem joinL_len {d n : Nat} : ∀ (ls : List (List Nat)), (∀ r ∈ ls, r.length ≤ n) → (joinL d ls).length ≤ (n + 1) * ls.length
  | [], _ => Nat.zero_le _
  | [p], h => by
    have := h p (List.mem_cons_self ..)
    show p.length ≤ (n + 1) * 1
    omega
  | p :: q :: t, h => by
    have ih := joinL_len (d := d) (q :: t) fun r hr => h r (List.mem_cons_of_mem _ hr)
    have := h p (List.mem_cons_self ..)
    show (p ++ d :: joinL d (q :: t)).length ≤ (n + 1) * (List.length (q :: t) + 1)
    rw [List.length_append, List.length_cons, Nat.mul_add]
    omega
def spLaw (K : PySem.W.Frag) : Sp := fun vs H Q _ => ∃ (a : Addr) (ns : List Int), vs = [.ref a] ∧ SqL K H a (ns.map V.int) ∧ ns.length ≤ 63 ∧ ∀ H', Q (.bl true) H'
theorem ok_law {A : Ad} (T : Txt w K mg base A) : FnOk P w K mg base CX0 5 A.a_law A.d_law P_law (spLaw K) := by
  have G_bag := ok_bag (P := P) (w := w) (base := base) T
  have G_page := ok_page (P := P) (w := w) (base := base) T
  have G_show_page := ok_show_page (P := P) (w := w) (base := base) T
  have G_lread := ok_lread (P := P) (w := w) (base := base) T
  have G_things := ok_things (P := P) (w := w) (base := base) T
  refine T.F_law.ok sc_law (fun vs H Q E h => ?_) (fun cdv Ar outer s H vs Q E hr h => ?_)
  · obtain ⟨a, ns, rfl, _⟩ := h
    rfl
  · obtain ⟨a, ns, rfl, hS, ln, q⟩ := h
    refine ⟨_, (pss_cons (ps_for PassesOwn.never rfl (pi_range1 (by rfl) T.z_range (pa_cons (pe_callB (call_max2 rfl) (by rfl) T.z_max (by decide +kernel) (pa_cons pe_int (pa_cons (pe_callB (call_min2 rfl) (by rfl) T.z_min (by decide +kernel) (pa_cons pe_int (pa_cons (pe_callB (r := fun xs H Q => ∃ p ys, xs = [.ref p] ∧ (SqL K H p ys ∨ SqT K H p ys) ∧ Q (.int ys.length) H) call_len_seq (by rfl) T.z_len PySem.boot_len (pa_cons (pv 0) pa_nil)) pa_nil))) pa_nil))) pa_nil)) (pg_name (i := 1) sc_law.nd rfl (Or.inl rfl))
      (pss_cons (ps_set (i := 2) sc_law.nd rfl (Or.inl rfl) (pe_call G_bag (hr.mono (by decide)) (by rfl) T.g_bag T.F_bag.kp T.b_bag .nil pass0 (pa_cons (pv 0) (pa_cons (pv 1) pa_nil))))
      (pss_cons (ps_set (i := 3) sc_law.nd rfl (Or.inl rfl) (pe_call G_page (hr.mono (by decide)) (by rfl) T.g_page T.F_page.kp T.b_page .nil pass0 (pa_cons (pv 2) (pa_cons pe_int (pa_cons pe_int pa_nil)))))
      (pss_cons (ps_set (i := 4) sc_law.nd rfl (Or.inl rfl) (pe_ix (r := rIxT K) ix_tup (pv 3) pe_int (fun _ _ => rfl)))
      (pss_cons (ps_for PassesOwn.never rfl (pi_tup (pe_slice sl_tupW (pv 3) (po_some pe_int) po_none)) (pg_name (i := 5) sc_law.nd rfl (Or.inl rfl))
      (pss_one (ps_set (i := 4) sc_law.nd rfl (Or.inl rfl) (pe_op op_add_str (pe_op op_add_str (pv 4) pe_str) (pv 5)))))
      (pss_cons (ps_if (PW.pt (pw_or (pt_cmpR op_ne (pe_call G_show_page (hr.mono (by decide)) (by rfl) T.g_show_page T.F_show_page.kp T.b_show_page .nil pass0 (pa_cons (pv 3) pa_nil)) (pv 4) (nomark _)) (pw_or1 (pt_not (pt_val (pe_call G_lread (hr.mono (by decide)) (by rfl) T.g_lread T.F_lread.kp T.b_lread .nil pass0 (pa_cons (pv 4) pa_nil)))))))
      (pss_one (ps_ret pe_bl)) pss_nil)
      (pss_one (ps_if (pt_not (pt_val (pe_callB (cr_all rfl) (by rfl) T.z_all (by decide +kernel) (pa_cons (pe_lc (own := [("_law_thing", 6)]) (g := gName 6) (tt := tYes) (by rfl) sc_law.nd (pi_list (pe_call G_things (hr.mono (by decide)) (by rfl) T.g_things T.F_things.kp T.b_things .nil pass0 (pa_cons (pv 2) (pa_cons (pv 4) pa_nil)))) (blkOk_by (own := [("_law_thing", 6)]) (N := N_law) (sc := defScope s_law) (by decide +kernel)) (fun _ _ _ _ _ => pg_name (i := 6) sc_law.nd rfl (Or.inl rfl)) (fun _ _ _ _ _ => pts_nil) (fun s5 H5 C5 cl5 fp5 => (pe_call G_lread (hr.mono (by decide)) (by rfl) T.g_lread T.F_lread.kp T.b_lread .nil pass0 (pa_cons (pv 6) pa_nil)))) pa_nil))))
      (pss_one (ps_ret pe_bl)) pss_nil))))))))
      (pss_one (ps_ret pe_bl))), ?_⟩
    refine ⟨_, rfl, _, _, rfl, .inl hS, _, _, rfl, _, _, rfl, _, rfl, ?_, ?_, for_range (fun i σ H' => ∃ y1 y2 y3 y4 y5 y6, σ = [some (.ref a), y1, y2, y3, y4, y5, y6] ∧ Same H H') ⟨none, none, none, none, none, none, rfl, Same.refl H⟩ ?_ ?_⟩
    · rw [List.length_map]
      split <;> split <;> omega
    · rw [List.length_map]
      split <;> split <;> omega
    · rintro i σ H1 hi ⟨y1, y2, y3, y4, y5, y6, rfl, sm⟩
      have hi8 : i < 8 := by
        rw [List.length_map] at hi
        revert hi
        split <;> split <;> omega
      refine ⟨_, rfl, _, rfl, a, ns, _, rfl, sm.seq hS, by omega, by omega, fun b g s hb g0 s0 s1 => ?_⟩
      have B0 : BagAt (upd H1 b (.lst [.int g, .int s])) b := BagAt.new g0 s0 s1
      refine ⟨_, rfl, b, 64, 24, rfl, B0, by decide, by decide, by decide, by decide, fun p rows n H2 n0 n1 r0 r1 gr fp hp bx1 => ?_⟩
      have np : p ≠ b := bx1.1.tup hp
      have lr : (rows.map sV).length = rows.length := List.length_map ..
      obtain ⟨r, rs, rfl⟩ : ∃ r rs, rows = r :: rs := by
        cases rows with
        | nil => exact absurd r0 (by decide)
        | cons r rs => exact ⟨r, rs, rfl⟩
      have each : ∀ x ∈ r :: rs, x.length ≤ 64 := fun x hx => by rw [(gr x hx).1]; exact n1
      have jl : ∀ k, (joinL 47 ((r :: rs).take k)).length ≤ 65 * 24 := fun k => by
        have h1 := joinL_len (d := 47) (n := 64) ((r :: rs).take k) fun x hx => each x (List.mem_of_mem_take hx)
        have h2 : ((r :: rs).take k).length ≤ 24 := by
          rw [List.length_take]
          omega
        exact Nat.le_trans h1 (Nat.mul_le_mul_left 65 h2)
      refine ⟨_, rfl, _, _, _, sV r, rfl, rfl, .inl (.inl hp), atI_nat (j := 0) rfl, ?_⟩
      refine ⟨_, rfl, _, rfl, _, _, rfl, hp, fun c H3 s3 e3 => ?_⟩
      rw [cut1] at e3
      have e3 : H3 c = some (.tup (rs.map sV)) := e3
      refine ⟨_, rfl, ⟨_, .inl (.inl e3)⟩, for_tup (K := K) (a := c) (xs := rs.map sV) (fun j σ H' => ∃ y5, σ = [some (.ref a), some (.int (0 + (i : Int))), some (.ref b), some (.ref p), some (.str (sOf (joinL 47 ((r :: rs).take (j + 1))))), y5, y6] ∧ H' = H3) ⟨y5, rfl, rfl⟩ (fun j σ H' _ ⟨_, _, e⟩ => by rw [e]; exact .inl (.inl e3)) ?_ ?_⟩
      · rintro j x σ H4 hx ⟨y5, rfl, rfl⟩
        rw [List.getElem?_map] at hx
        obtain ⟨r2, hr2, rfl⟩ : ∃ r2, rs[j]? = some r2 ∧ sV r2 = x := by
          cases e : rs[j]? with
          | none =>
            rw [e] at hx
            cases hx
          | some r2 =>
            rw [e] at hx
            exact ⟨r2, rfl, Option.some.inj hx⟩
        have l2 := each r2 (List.mem_cons_of_mem _ (List.mem_of_getElem? hr2))
        have nx : joinL 47 ((r :: rs).take (j + 1 + 1)) = joinL 47 ((r :: rs).take (j + 1)) ++ [47] ++ r2 := by
          rw [take_more (r :: rs) (j + 1) r2 hr2, joinL_snoc _ _ _ (by simp)]
        have j1 := jl (j + 1)
        refine ⟨_, rfl, _, _, rfl, rfl, ?_, _, rfl, _, _, rfl, rfl, ?_, ?_⟩
        · rw [sOf_len, sl_len]
          exact sz (by omega)
        · rw [app_len, sOf_len, sl_len, sOf_len]
          exact sz (by omega)
        · refine ⟨some (sV r2), ?_, rfl⟩
          rw [nx, show (Str.ofString "/") = sOf [47] from rfl, sOf_app, sOf_app]
          rfl
      · rintro σ H4 ⟨y5, rfl, rfl⟩
        have tl : (r :: rs).take ((rs.map sV).length + 1) = r :: rs := List.take_of_length_le (by rw [List.length_map, List.length_cons]; exact Nat.le_refl _)
        rw [tl]
        have jz := jl 100
        rw [List.take_of_length_le (by omega)] at jz
        have hp3 := s3 _ _ hp
        refine ⟨_, rfl, p, r :: rs, rfl, hp3, by omega, (fun x hx => by have := each x hx; omega), _, rfl, rfl, _, rfl, ?_⟩
        rw [decide_eq_true rfl]
        refine ⟨_, rfl, .str (sOf (joinL 47 (r :: rs))), .txt (sOf (joinL 47 (r :: rs))), rfl, ⟨rfl, by rw [sOf_len]; omega⟩, (fun z e => by cases e; rw [sOf_len]; omega), fun H5 s5 => ⟨_, rfl, ?_⟩⟩
        have bx5 := (bx1.same s3).same s5
        refine ⟨_, rfl, _, rfl, b, _, rfl, bx5.1, by rw [sOf_len]; omega, fun l xs H6 nl el lx tx bx6 => ?_⟩
        refine ⟨l, rfl, ⟨_, SqL.of el⟩, fun D hD => lc_list (K := K) (a := l) (xs := xs) (fun j H' => Same H6 H' ∧ H' D = some (.lst ((List.replicate j true).map V.bl))) ⟨same_new hD, upd_same⟩ (fun j H' _ ⟨s, _⟩ => SqL.of (s _ _ el)) ?_ ?_⟩
        · rintro j x H7 hx ⟨s7, hD7⟩
          have tgx := tx x (List.mem_of_getElem? hx)
          obtain ⟨k, hk⟩ := it_is1 (K := K) tgx.1.it
          have hj : j < xs.length := (List.getElem?_eq_some_iff.mp hx).1
          refine ⟨rfl, _, rfl, x, k, rfl, is1_to s7 hk, (fun z e => ?_), fun H8 s8 => ⟨_, s8 _ _ hD7, ?_, Same.mut (s7.trans s8) hD, ?_⟩⟩
          · rw [e] at hk
            exact tgx.2 z hk.1
          · rw [List.length_map, List.length_replicate]
            exact szl (by omega)
          · rw [upd_same, List.replicate_succ', List.map_append]
            rfl
        · rintro H7 ⟨s7, hD7⟩
          refine ⟨_, List.replicate xs.length true, rfl, SqL.of hD7, ?_⟩
          rw [show (List.replicate xs.length true).all id = true from List.all_eq_true.mpr fun x hx => by rw [(List.mem_replicate.mp hx).2]; rfl]
          refine ⟨_, rfl, ?_⟩
          exact ⟨_, _, _, _, _, _, rfl, sm.trans (((bx5.trans bx6).same s7).back (same_new hb) hb)⟩
    · rintro σ H1 ⟨y1, y2, y3, y4, y5, y6, rfl, sm⟩
      exact q _
end
--SPLIT
theorem all_mk {l : PySem.W.OpenLaw} {w : World} {K : PySem.W.Frag} {h : Heap} {mg : Str → Option Value} {fa : Addr} (X : K.In h) (G : h.Ns mainGlobals mg) (hfa : mg "law" = some (.ref fa))
    {f0 f1 f2 f3 f4 f5 f6 f7 f8 f9 f10 f11 f12 f13 f14 f15 f16 : Addr}
    {x_NoSaying : Addr}
    {x_NoCall : Addr}
    {x_NoEnds : Addr}
    {x_NoName : Addr}
    {x_NoPiece : Addr}
    {x_NoFrame : Addr}
    {x_NoTelling : Addr}
    {x_NoWords : Addr}
    {x_NoPage : Addr}
    {x_FarError : Addr}
    {od0 an0 od1 an1 od2 an2 od3 an3 od4 an4 od5 an5 od6 an6 od7 an7 od8 an8 od9 an9 od10 an10 od11 an11 od12 an12 od13 an13 od14 an14 od15 an15 od16 an16 : Option Addr}
    {sl0 sl1 sl2 sl3 sl4 sl5 sl6 sl7 sl8 sl9 sl10 sl11 sl12 sl13 sl14 sl15 sl16 : Array (Option Value)}
    {oc0 kV0 dc0 pm0 ct0 cd0 oc1 kV1 dc1 pm1 ct1 cd1 oc2 kV2 dc2 pm2 ct2 cd2 oc3 kV3 dc3 pm3 ct3 cd3 oc4 kV4 dc4 pm4 ct4 cd4 oc5 kV5 dc5 pm5 ct5 cd5 oc6 kV6 dc6 pm6 ct6 cd6 oc7 kV7 dc7 pm7 ct7 cd7 oc8 kV8 dc8 pm8 ct8 cd8 oc9 kV9 dc9 pm9 ct9 cd9 oc10 kV10 dc10 pm10 ct10 cd10 oc11 kV11 dc11 pm11 ct11 cd11 oc12 kV12 dc12 pm12 ct12 cd12 oc13 kV13 dc13 pm13 ct13 cd13 oc14 kV14 dc14 pm14 ct14 cd14 oc15 kV15 dc15 pm15 ct15 cd15 oc16 kV16 dc16 pm16 ct16 cd16 : Value}
    {t_DARK : Tok}
    {t_LEAST_BREADTH : Tok}
    {t_LIGHT : Tok}
    {t_MOST_BREADTH : Tok}
    {t_MOST_ROWS : Tok}
    (a0 : PySem.W.nsIn K mainGlobals "is_row" = some (some (.ref f0))) (l0 : K.lookup f0 = some ⟨oc0, od0, .func (PySem.W.fnOf "is_row" "is_row" (defArgs s_is_row) (defBody s_is_row) (defScope s_is_row) .none kV0 dc0 pm0 an0 cd0 ct0), sl0⟩) (c0 : PySem.W.codeIn K cd0 "is_row" = true) (k0 : PySem.W.keepIn K (.ref f0) = true)
    (a1 : PySem.W.nsIn K mainGlobals "is_page" = some (some (.ref f1))) (l1 : K.lookup f1 = some ⟨oc1, od1, .func (PySem.W.fnOf "is_page" "is_page" (defArgs s_is_page) (defBody s_is_page) (defScope s_is_page) .none kV1 dc1 pm1 an1 cd1 ct1), sl1⟩) (c1 : PySem.W.codeIn K cd1 "is_page" = true) (k1 : PySem.W.keepIn K (.ref f1) = true)
    (a2 : PySem.W.nsIn K mainGlobals "show_page" = some (some (.ref f2))) (l2 : K.lookup f2 = some ⟨oc2, od2, .func (PySem.W.fnOf "show_page" "show_page" (defArgs s_show_page) (defBody s_show_page) (defScope s_show_page) .none kV2 dc2 pm2 an2 cd2 ct2), sl2⟩) (c2 : PySem.W.codeIn K cd2 "show_page" = true) (k2 : PySem.W.keepIn K (.ref f2) = true)
    (a3 : PySem.W.nsIn K mainGlobals "read_page" = some (some (.ref f3))) (l3 : K.lookup f3 = some ⟨oc3, od3, .func (PySem.W.fnOf "read_page" "read_page" (defArgs s_read_page) (defBody s_read_page) (defScope s_read_page) .none kV3 dc3 pm3 an3 cd3 ct3), sl3⟩) (c3 : PySem.W.codeIn K cd3 "read_page" = true) (k3 : PySem.W.keepIn K (.ref f3) = true)
    (a4 : PySem.W.nsIn K mainGlobals "_law_bag" = some (some (.ref f4))) (l4 : K.lookup f4 = some ⟨oc4, od4, .func (PySem.W.fnOf "_law_bag" "_law_bag" (defArgs s_bag) (defBody s_bag) (defScope s_bag) .none kV4 dc4 pm4 an4 cd4 ct4), sl4⟩) (c4 : PySem.W.codeIn K cd4 "_law_bag" = true) (k4 : PySem.W.keepIn K (.ref f4) = true)
    (a5 : PySem.W.nsIn K mainGlobals "_law_draw" = some (some (.ref f5))) (l5 : K.lookup f5 = some ⟨oc5, od5, .func (PySem.W.fnOf "_law_draw" "_law_draw" (defArgs s_draw) (defBody s_draw) (defScope s_draw) .none kV5 dc5 pm5 an5 cd5 ct5), sl5⟩) (c5 : PySem.W.codeIn K cd5 "_law_draw" = true) (k5 : PySem.W.keepIn K (.ref f5) = true)
    (a6 : PySem.W.nsIn K mainGlobals "_law_row" = some (some (.ref f6))) (l6 : K.lookup f6 = some ⟨oc6, od6, .func (PySem.W.fnOf "_law_row" "_law_row" (defArgs s_row) (defBody s_row) (defScope s_row) .none kV6 dc6 pm6 an6 cd6 ct6), sl6⟩) (c6 : PySem.W.codeIn K cd6 "_law_row" = true) (k6 : PySem.W.keepIn K (.ref f6) = true)
    (a7 : PySem.W.nsIn K mainGlobals "_law_page" = some (some (.ref f7))) (l7 : K.lookup f7 = some ⟨oc7, od7, .func (PySem.W.fnOf "_law_page" "_law_page" (defArgs s_page) (defBody s_page) (defScope s_page) .none kV7 dc7 pm7 an7 cd7 ct7), sl7⟩) (c7 : PySem.W.codeIn K cd7 "_law_page" = true) (k7 : PySem.W.keepIn K (.ref f7) = true)
    (a8 : PySem.W.nsIn K mainGlobals "_law_signs" = some (some (.ref f8))) (l8 : K.lookup f8 = some ⟨oc8, od8, .func (PySem.W.fnOf "_law_signs" "_law_signs" (defArgs s_signs) (defBody s_signs) (defScope s_signs) .none kV8 dc8 pm8 an8 cd8 ct8), sl8⟩) (c8 : PySem.W.codeIn K cd8 "_law_signs" = true) (k8 : PySem.W.keepIn K (.ref f8) = true)
    (a9 : PySem.W.nsIn K mainGlobals "_law_is_row" = some (some (.ref f9))) (l9 : K.lookup f9 = some ⟨oc9, od9, .func (PySem.W.fnOf "_law_is_row" "_law_is_row" (defArgs s_is_row_l) (defBody s_is_row_l) (defScope s_is_row_l) .none kV9 dc9 pm9 an9 cd9 ct9), sl9⟩) (c9 : PySem.W.codeIn K cd9 "_law_is_row" = true) (k9 : PySem.W.keepIn K (.ref f9) = true)
    (a10 : PySem.W.nsIn K mainGlobals "_law_is_page" = some (some (.ref f10))) (l10 : K.lookup f10 = some ⟨oc10, od10, .func (PySem.W.fnOf "_law_is_page" "_law_is_page" (defArgs s_is_page_l) (defBody s_is_page_l) (defScope s_is_page_l) .none kV10 dc10 pm10 an10 cd10 ct10), sl10⟩) (c10 : PySem.W.codeIn K cd10 "_law_is_page" = true) (k10 : PySem.W.keepIn K (.ref f10) = true)
    (a11 : PySem.W.nsIn K mainGlobals "_law_odd" = some (some (.ref f11))) (l11 : K.lookup f11 = some ⟨oc11, od11, .func (PySem.W.fnOf "_law_odd" "_law_odd" (defArgs s_odd) (defBody s_odd) (defScope s_odd) .none kV11 dc11 pm11 an11 cd11 ct11), sl11⟩) (c11 : PySem.W.codeIn K cd11 "_law_odd" = true) (k11 : PySem.W.keepIn K (.ref f11) = true)
    (a12 : PySem.W.nsIn K mainGlobals "_law_only" = some (some (.ref f12))) (l12 : K.lookup f12 = some ⟨oc12, od12, .func (PySem.W.fnOf "_law_only" "_law_only" (defArgs s_only) (defBody s_only) (defScope s_only) .none kV12 dc12 pm12 an12 cd12 ct12), sl12⟩) (c12 : PySem.W.codeIn K cd12 "_law_only" = true) (k12 : PySem.W.keepIn K (.ref f12) = true)
    (a13 : PySem.W.nsIn K mainGlobals "_law_page_shown" = some (some (.ref f13))) (l13 : K.lookup f13 = some ⟨oc13, od13, .func (PySem.W.fnOf "_law_page_shown" "_law_page_shown" (defArgs s_shown) (defBody s_shown) (defScope s_shown) .none kV13 dc13 pm13 an13 cd13 ct13), sl13⟩) (c13 : PySem.W.codeIn K cd13 "_law_page_shown" = true) (k13 : PySem.W.keepIn K (.ref f13) = true)
    (a14 : PySem.W.nsIn K mainGlobals "_law_read" = some (some (.ref f14))) (l14 : K.lookup f14 = some ⟨oc14, od14, .func (PySem.W.fnOf "_law_read" "_law_read" (defArgs s_lread) (defBody s_lread) (defScope s_lread) .none kV14 dc14 pm14 an14 cd14 ct14), sl14⟩) (c14 : PySem.W.codeIn K cd14 "_law_read" = true) (k14 : PySem.W.keepIn K (.ref f14) = true)
    (a15 : PySem.W.nsIn K mainGlobals "_law_things" = some (some (.ref f15))) (l15 : K.lookup f15 = some ⟨oc15, od15, .func (PySem.W.fnOf "_law_things" "_law_things" (defArgs s_things) (defBody s_things) (defScope s_things) .none kV15 dc15 pm15 an15 cd15 ct15), sl15⟩) (c15 : PySem.W.codeIn K cd15 "_law_things" = true) (k15 : PySem.W.keepIn K (.ref f15) = true)
    (a16 : PySem.W.nsIn K mainGlobals "law" = some (some (.ref f16))) (l16 : K.lookup f16 = some ⟨oc16, od16, .func (PySem.W.fnOf "law" "law" (defArgs s_law) (defBody s_law) (defScope s_law) .none kV16 dc16 pm16 an16 cd16 ct16), sl16⟩) (c16 : PySem.W.codeIn K cd16 "law" = true) (k16 : PySem.W.keepIn K (.ref f16) = true)
    (xa_FarError : PySem.W.nsIn K mainGlobals "FarError" = some (some (.ref x_FarError))) (xi_FarError : PySem.W.isClsIn K x_FarError = true) (xt_FarError : PySem.W.typeIn K (.ref x_FarError) = some (.type "type")) (xu_FarError : PySem.W.subIn K (.ref x_NoPage) (.ref x_FarError) = some true)
    (xa_NoPage : PySem.W.nsIn K mainGlobals "NoPage" = some (some (.ref x_NoPage))) (xi_NoPage : PySem.W.isClsIn K x_NoPage = true) (xt_NoPage : PySem.W.typeIn K (.ref x_NoPage) = some (.type "type")) (xu_NoPage : PySem.W.subIn K (.ref x_NoPage) (.ref x_NoPage) = some true)
    (xa_NoWords : PySem.W.nsIn K mainGlobals "NoWords" = some (some (.ref x_NoWords))) (xi_NoWords : PySem.W.isClsIn K x_NoWords = true) (xt_NoWords : PySem.W.typeIn K (.ref x_NoWords) = some (.type "type")) (xu_NoWords : PySem.W.subIn K (.ref x_NoPage) (.ref x_NoWords) = some false)
    (xa_NoTelling : PySem.W.nsIn K mainGlobals "NoTelling" = some (some (.ref x_NoTelling))) (xi_NoTelling : PySem.W.isClsIn K x_NoTelling = true) (xt_NoTelling : PySem.W.typeIn K (.ref x_NoTelling) = some (.type "type")) (xu_NoTelling : PySem.W.subIn K (.ref x_NoPage) (.ref x_NoTelling) = some false)
    (xa_NoFrame : PySem.W.nsIn K mainGlobals "NoFrame" = some (some (.ref x_NoFrame))) (xi_NoFrame : PySem.W.isClsIn K x_NoFrame = true) (xt_NoFrame : PySem.W.typeIn K (.ref x_NoFrame) = some (.type "type")) (xu_NoFrame : PySem.W.subIn K (.ref x_NoPage) (.ref x_NoFrame) = some false)
    (xa_NoPiece : PySem.W.nsIn K mainGlobals "NoPiece" = some (some (.ref x_NoPiece))) (xi_NoPiece : PySem.W.isClsIn K x_NoPiece = true) (xt_NoPiece : PySem.W.typeIn K (.ref x_NoPiece) = some (.type "type")) (xu_NoPiece : PySem.W.subIn K (.ref x_NoPage) (.ref x_NoPiece) = some false)
    (xa_NoName : PySem.W.nsIn K mainGlobals "NoName" = some (some (.ref x_NoName))) (xi_NoName : PySem.W.isClsIn K x_NoName = true) (xt_NoName : PySem.W.typeIn K (.ref x_NoName) = some (.type "type")) (xu_NoName : PySem.W.subIn K (.ref x_NoPage) (.ref x_NoName) = some false)
    (xa_NoEnds : PySem.W.nsIn K mainGlobals "NoEnds" = some (some (.ref x_NoEnds))) (xi_NoEnds : PySem.W.isClsIn K x_NoEnds = true) (xt_NoEnds : PySem.W.typeIn K (.ref x_NoEnds) = some (.type "type")) (xu_NoEnds : PySem.W.subIn K (.ref x_NoPage) (.ref x_NoEnds) = some false)
    (xa_NoCall : PySem.W.nsIn K mainGlobals "NoCall" = some (some (.ref x_NoCall))) (xi_NoCall : PySem.W.isClsIn K x_NoCall = true) (xt_NoCall : PySem.W.typeIn K (.ref x_NoCall) = some (.type "type")) (xu_NoCall : PySem.W.subIn K (.ref x_NoPage) (.ref x_NoCall) = some false)
    (xa_NoSaying : PySem.W.nsIn K mainGlobals "NoSaying" = some (some (.ref x_NoSaying))) (xi_NoSaying : PySem.W.isClsIn K x_NoSaying = true) (xt_NoSaying : PySem.W.typeIn K (.ref x_NoSaying) = some (.type "type")) (xu_NoSaying : PySem.W.subIn K (.ref x_NoPage) (.ref x_NoSaying) = some false)
    (xq_NoPage : PySem.W.excIn K x_NoPage veB "ValueError.__new__" = true) (xk_NoPage : PySem.W.keepIn K (.ref x_NoPage) = true) (xs_NoPage : PySem.W.subIn K (.ref x_NoPage) (.type "BaseException") = some true) (xs_FarError : PySem.W.subIn K (.ref x_FarError) (.type "BaseException") = some true) (xv_NoPage : PySem.W.subIn K (.ref x_NoPage) (.type "ValueError") = some true)
    (eg : PySem.W.findIn K (.ref x_NoPage) "__getattribute__" = some (some (.builtin "BaseException.__getattribute__"))) (ek : PySem.W.findIn K (.ref x_NoPage) "__getattr__" = some none) (ed : PySem.W.hasDictIn K x_NoPage = true) (ea : PySem.W.findIn K (.ref x_NoPage) "__class__" = some (some (.builtin "object.__class__"))) (en : PySem.W.specialIn K (.builtin "object.__class__") "__get__" = some (some (.builtin "getset_descriptor.__get__"))) (et : PySem.W.takesIn K (.builtin "object.__class__") = some true) (em : PySem.W.mroIn K x_NoPage (.type "object") = some true)
    (z_ValueError : PySem.W.nsIn K mainGlobals "ValueError" = some none)
    (z_abs : PySem.W.nsIn K mainGlobals "abs" = some none)
    (z_all : PySem.W.nsIn K mainGlobals "all" = some none)
    (z_isinstance : PySem.W.nsIn K mainGlobals "isinstance" = some none)
    (z_len : PySem.W.nsIn K mainGlobals "len" = some none)
    (z_list : PySem.W.nsIn K mainGlobals "list" = some none)
    (z_max : PySem.W.nsIn K mainGlobals "max" = some none)
    (z_min : PySem.W.nsIn K mainGlobals "min" = some none)
    (z_range : PySem.W.nsIn K mainGlobals "range" = some none)
    (z_str : PySem.W.nsIn K mainGlobals "str" = some none)
    (z_tuple : PySem.W.nsIn K mainGlobals "tuple" = some none)
    (m_DARK : PySem.W.nsIn K mainGlobals "DARK" = some (some (.str "#" t_DARK)))
    (m_LEAST_BREADTH : PySem.W.nsIn K mainGlobals "LEAST_BREADTH" = some (some (.int (8) t_LEAST_BREADTH)))
    (m_LIGHT : PySem.W.nsIn K mainGlobals "LIGHT" = some (some (.str "." t_LIGHT)))
    (m_MOST_BREADTH : PySem.W.nsIn K mainGlobals "MOST_BREADTH" = some (some (.int (64) t_MOST_BREADTH)))
    (m_MOST_ROWS : PySem.W.nsIn K mainGlobals "MOST_ROWS" = some (some (.int (24) t_MOST_ROWS)))
    : ∃ fd : FuncData, (∀ (s : Shared) (v : Value), BindsTo s fd ⟨[v], []⟩ [("_law_script", v)]) ∧ ∀ base : Heap, K.In base → base.Ns mainGlobals mg → FnOk l.prog w K mg base CX0 5 fa fd ["_law_script"] (spLaw K) := by
  have e := hfa.symm.trans (PySem.W.mg_of X G a16)
  cases e
  have F0 := fun_mk (st := s_is_row) l0 c0 k0
  have b0 := F0.binds (ps := P_is_row) fun _ _ _ _ _ _ us hl => match us, hl with | [_], _ => rfl
  have F1 := fun_mk (st := s_is_page) l1 c1 k1
  have b1 := F1.binds (ps := P_is_page) fun _ _ _ _ _ _ us hl => match us, hl with | [_], _ => rfl
  have F2 := fun_mk (st := s_show_page) l2 c2 k2
  have b2 := F2.binds (ps := P_show_page) fun _ _ _ _ _ _ us hl => match us, hl with | [_], _ => rfl
  have F3 := fun_mk (st := s_read_page) l3 c3 k3
  have b3 := F3.binds (ps := P_read_page) fun _ _ _ _ _ _ us hl => match us, hl with | [_], _ => rfl
  have F4 := fun_mk (st := s_bag) l4 c4 k4
  have b4 := F4.binds (ps := P_bag) fun _ _ _ _ _ _ us hl => match us, hl with | [_, _], _ => rfl
  have F5 := fun_mk (st := s_draw) l5 c5 k5
  have b5 := F5.binds (ps := P_draw) fun _ _ _ _ _ _ us hl => match us, hl with | [_, _], _ => rfl
  have F6 := fun_mk (st := s_row) l6 c6 k6
  have b6 := F6.binds (ps := P_row) fun _ _ _ _ _ _ us hl => match us, hl with | [_, _, _], _ => rfl
  have F7 := fun_mk (st := s_page) l7 c7 k7
  have b7 := F7.binds (ps := P_page) fun _ _ _ _ _ _ us hl => match us, hl with | [_, _, _], _ => rfl
  have F8 := fun_mk (st := s_signs) l8 c8 k8
  have b8 := F8.binds (ps := P_signs) fun _ _ _ _ _ _ us hl => match us, hl with | [], _ => rfl
  have F9 := fun_mk (st := s_is_row_l) l9 c9 k9
  have b9 := F9.binds (ps := P_is_row_l) fun _ _ _ _ _ _ us hl => match us, hl with | [_], _ => rfl
  have F10 := fun_mk (st := s_is_page_l) l10 c10 k10
  have b10 := F10.binds (ps := P_is_page_l) fun _ _ _ _ _ _ us hl => match us, hl with | [_], _ => rfl
  have F11 := fun_mk (st := s_odd) l11 c11 k11
  have b11 := F11.binds (ps := P_odd) fun _ _ _ _ _ _ us hl => match us, hl with | [_], _ => rfl
  have F12 := fun_mk (st := s_only) l12 c12 k12
  have b12 := F12.binds (ps := P_only) fun _ _ _ _ _ _ us hl => match us, hl with | [_, _], _ => rfl
  have F13 := fun_mk (st := s_shown) l13 c13 k13
  have b13 := F13.binds (ps := P_shown) fun _ _ _ _ _ _ us hl => match us, hl with | [_], _ => rfl
  have F14 := fun_mk (st := s_lread) l14 c14 k14
  have b14 := F14.binds (ps := P_lread) fun _ _ _ _ _ _ us hl => match us, hl with | [_], _ => rfl
  have F15 := fun_mk (st := s_things) l15 c15 k15
  have b15 := F15.binds (ps := P_things) fun _ _ _ _ _ _ us hl => match us, hl with | [_, _], _ => rfl
  have F16 := fun_mk (st := s_law) l16 c16 k16
  exact ⟨_, fun s v => .of_eq rfl, fun base _ _ => ok_law (A := ⟨f0, _, f1, _, f2, _, f3, _, f4, _, f5, _, f6, _, f7, _, f8, _, f9, _, f10, _, f11, _, f12, _, f13, _, f14, _, f15, _, fa, _, t_DARK, t_LEAST_BREADTH, t_LIGHT, t_MOST_BREADTH, t_MOST_ROWS, x_FarError, x_NoPage, x_NoWords, x_NoTelling, x_NoFrame, x_NoPiece, x_NoName, x_NoEnds, x_NoCall, x_NoSaying⟩) ⟨F0, b0, PySem.W.mg_of X G a0, F1, b1, PySem.W.mg_of X G a1, F2, b2, PySem.W.mg_of X G a2, F3, b3, PySem.W.mg_of X G a3, F4, b4, PySem.W.mg_of X G a4, F5, b5, PySem.W.mg_of X G a5, F6, b6, PySem.W.mg_of X G a6, F7, b7, PySem.W.mg_of X G a7, F8, b8, PySem.W.mg_of X G a8, F9, b9, PySem.W.mg_of X G a9, F10, b10, PySem.W.mg_of X G a10, F11, b11, PySem.W.mg_of X G a11, F12, b12, PySem.W.mg_of X G a12, F13, b13, PySem.W.mg_of X G a13, F14, b14, PySem.W.mg_of X G a14, F15, b15, PySem.W.mg_of X G a15, F16, PySem.W.mg_of X G a16, PySem.W.mg_of X G xa_FarError, kit_own xu_NoPage xi_FarError xt_FarError xu_FarError, PySem.W.mg_of X G xa_NoPage, kit_own xu_NoPage xi_NoPage xt_NoPage xu_NoPage, PySem.W.mg_of X G xa_NoWords, kit_own xu_NoPage xi_NoWords xt_NoWords xu_NoWords, PySem.W.mg_of X G xa_NoTelling, kit_own xu_NoPage xi_NoTelling xt_NoTelling xu_NoTelling, PySem.W.mg_of X G xa_NoFrame, kit_own xu_NoPage xi_NoFrame xt_NoFrame xu_NoFrame, PySem.W.mg_of X G xa_NoPiece, kit_own xu_NoPage xi_NoPiece xt_NoPiece xu_NoPiece, PySem.W.mg_of X G xa_NoName, kit_own xu_NoPage xi_NoName xt_NoName xu_NoName, PySem.W.mg_of X G xa_NoEnds, kit_own xu_NoPage xi_NoEnds xt_NoEnds xu_NoEnds, PySem.W.mg_of X G xa_NoCall, kit_own xu_NoPage xi_NoCall xt_NoCall xu_NoCall, PySem.W.mg_of X G xa_NoSaying, kit_own xu_NoPage xi_NoSaying xt_NoSaying xu_NoSaying, xq_NoPage, xk_NoPage, xs_NoPage, xt_NoPage, ⟨eg, ek, xs_NoPage, ed, ea, en, et, em⟩, kit_ve xv_NoPage, exm_sub xs_FarError xi_FarError xt_FarError xu_FarError, PySem.W.mg_none_of X G z_ValueError, PySem.W.mg_none_of X G z_abs, PySem.W.mg_none_of X G z_all, PySem.W.mg_none_of X G z_isinstance, PySem.W.mg_none_of X G z_len, PySem.W.mg_none_of X G z_list, PySem.W.mg_none_of X G z_max, PySem.W.mg_none_of X G z_min, PySem.W.mg_none_of X G z_range, PySem.W.mg_none_of X G z_str, PySem.W.mg_none_of X G z_tuple, PySem.W.mg_of X G m_DARK, PySem.W.mg_of X G m_LEAST_BREADTH, PySem.W.mg_of X G m_LIGHT, PySem.W.mg_of X G m_MOST_BREADTH, PySem.W.mg_of X G m_MOST_ROWS⟩⟩
end K02
open PySem PySem.W PyProof.Rows
set_option maxHeartbeats 0 in
theorem PySem.Challenge.cw_farpage_k02_pages_written_holds : PySem.Challenge.rw_farpage_k02_pages_written.Holds := by
  w_on; o_law; k_head; (case hw => w_witness2)
  k_fill
  refine L2.walk_of (l := PySem.Challenge.rw_farpage_k02_pages_written) (n := 63) (k := 5) (x := "_law_script") (CX := fun _ => L2.CX0) (sp := fun w => K02.spLaw _) rfl (by decide) rfl ⟨rfl, by decide, by decide⟩ (fun w h Y => PySem.W.kIn_of Y) ?F (fun _ _ a ns hl _ hS => ⟨a, ns, rfl, hS, hl, fun _ => rfl⟩) (fun _ _ _ _ _ h => h)
  case F =>
    intro w mg fa h KX G hmg
    refine' K02.all_mk KX G hmg ?a0 ?l0 ?c0 ?k0 ?a1 ?l1 ?c1 ?k1 ?a2 ?l2 ?c2 ?k2 ?a3 ?l3 ?c3 ?k3 ?a4 ?l4 ?c4 ?k4 ?a5 ?l5 ?c5 ?k5 ?a6 ?l6 ?c6 ?k6 ?a7 ?l7 ?c7 ?k7 ?a8 ?l8 ?c8 ?k8 ?a9 ?l9 ?c9 ?k9 ?a10 ?l10 ?c10 ?k10 ?a11 ?l11 ?c11 ?k11 ?a12 ?l12 ?c12 ?k12 ?a13 ?l13 ?c13 ?k13 ?a14 ?l14 ?c14 ?k14 ?a15 ?l15 ?c15 ?k15 ?a16 ?l16 ?c16 ?k16 ?xa_FarError ?xi_FarError ?xt_FarError ?xu_FarError ?xa_NoPage ?xi_NoPage ?xt_NoPage ?xu_NoPage ?xa_NoWords ?xi_NoWords ?xt_NoWords ?xu_NoWords ?xa_NoTelling ?xi_NoTelling ?xt_NoTelling ?xu_NoTelling ?xa_NoFrame ?xi_NoFrame ?xt_NoFrame ?xu_NoFrame ?xa_NoPiece ?xi_NoPiece ?xt_NoPiece ?xu_NoPiece ?xa_NoName ?xi_NoName ?xt_NoName ?xu_NoName ?xa_NoEnds ?xi_NoEnds ?xt_NoEnds ?xu_NoEnds ?xa_NoCall ?xi_NoCall ?xt_NoCall ?xu_NoCall ?xa_NoSaying ?xi_NoSaying ?xt_NoSaying ?xu_NoSaying ?xq_NoPage ?xk_NoPage ?xs_NoPage ?xs_FarError ?xv_NoPage ?eg ?ek ?ed ?ea ?en ?et ?em ?z_ValueError ?z_abs ?z_all ?z_isinstance ?z_len ?z_list ?z_max ?z_min ?z_range ?z_str ?z_tuple ?m_DARK ?m_LEAST_BREADTH ?m_LIGHT ?m_MOST_BREADTH ?m_MOST_ROWS
    (case xa_FarError => k_is)
    (case xa_NoPage => k_is)
    (case xa_NoWords => k_is)
    (case xa_NoTelling => k_is)
    (case xa_NoFrame => k_is)
    (case xa_NoPiece => k_is)
    (case xa_NoName => k_is)
    (case xa_NoEnds => k_is)
    (case xa_NoCall => k_is)
    (case xa_NoSaying => k_is)
    (case a0 => k_is)
    (case l0 => k_is)
    (case c0 => k_is)
    (case k0 => k_is)
    (case a1 => k_is)
    (case l1 => k_is)
    (case c1 => k_is)
    (case k1 => k_is)
    (case a2 => k_is)
    (case l2 => k_is)
    (case c2 => k_is)
    (case k2 => k_is)
    (case a3 => k_is)
    (case l3 => k_is)
    (case c3 => k_is)
    (case k3 => k_is)
    (case a4 => k_is)
    (case l4 => k_is)
    (case c4 => k_is)
    (case k4 => k_is)
    (case a5 => k_is)
    (case l5 => k_is)
    (case c5 => k_is)
    (case k5 => k_is)
    (case a6 => k_is)
    (case l6 => k_is)
    (case c6 => k_is)
    (case k6 => k_is)
    (case a7 => k_is)
    (case l7 => k_is)
    (case c7 => k_is)
    (case k7 => k_is)
    (case a8 => k_is)
    (case l8 => k_is)
    (case c8 => k_is)
    (case k8 => k_is)
    (case a9 => k_is)
    (case l9 => k_is)
    (case c9 => k_is)
    (case k9 => k_is)
    (case a10 => k_is)
    (case l10 => k_is)
    (case c10 => k_is)
    (case k10 => k_is)
    (case a11 => k_is)
    (case l11 => k_is)
    (case c11 => k_is)
    (case k11 => k_is)
    (case a12 => k_is)
    (case l12 => k_is)
    (case c12 => k_is)
    (case k12 => k_is)
    (case a13 => k_is)
    (case l13 => k_is)
    (case c13 => k_is)
    (case k13 => k_is)
    (case a14 => k_is)
    (case l14 => k_is)
    (case c14 => k_is)
    (case k14 => k_is)
    (case a15 => k_is)
    (case l15 => k_is)
    (case c15 => k_is)
    (case k15 => k_is)
    (case a16 => k_is)
    (case l16 => k_is)
    (case c16 => k_is)
    (case k16 => k_is)
    (case xi_FarError => k_is)
    (case xt_FarError => k_is)
    (case xu_FarError => first | rfl | k_is)
    (case xi_NoPage => k_is)
    (case xt_NoPage => k_is)
    (case xu_NoPage => first | rfl | k_is)
    (case xi_NoWords => k_is)
    (case xt_NoWords => k_is)
    (case xu_NoWords => first | rfl | k_is)
    (case xi_NoTelling => k_is)
    (case xt_NoTelling => k_is)
    (case xu_NoTelling => first | rfl | k_is)
    (case xi_NoFrame => k_is)
    (case xt_NoFrame => k_is)
    (case xu_NoFrame => first | rfl | k_is)
    (case xi_NoPiece => k_is)
    (case xt_NoPiece => k_is)
    (case xu_NoPiece => first | rfl | k_is)
    (case xi_NoName => k_is)
    (case xt_NoName => k_is)
    (case xu_NoName => first | rfl | k_is)
    (case xi_NoEnds => k_is)
    (case xt_NoEnds => k_is)
    (case xu_NoEnds => first | rfl | k_is)
    (case xi_NoCall => k_is)
    (case xt_NoCall => k_is)
    (case xu_NoCall => first | rfl | k_is)
    (case xi_NoSaying => k_is)
    (case xt_NoSaying => k_is)
    (case xu_NoSaying => first | rfl | k_is)
    (case xq_NoPage => k_exc)
    (case xk_NoPage => k_is)
    (case xs_NoPage => k_is)
    (case xs_FarError => k_is)
    (case xv_NoPage => k_is)
    (case eg => k_is)
    (case ek => k_is)
    (case ed => k_is)
    (case ea => k_is)
    (case en => k_is)
    (case et => k_is)
    (case em => k_is)
    (case z_ValueError => k_is)
    (case z_abs => k_is)
    (case z_all => k_is)
    (case z_isinstance => k_is)
    (case z_len => k_is)
    (case z_list => k_is)
    (case z_max => k_is)
    (case z_min => k_is)
    (case z_range => k_is)
    (case z_str => k_is)
    (case z_tuple => k_is)
    (case m_DARK => k_is)
    (case m_LEAST_BREADTH => k_is)
    (case m_LIGHT => k_is)
    (case m_MOST_BREADTH => k_is)
    (case m_MOST_ROWS => k_is)
